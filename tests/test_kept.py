"""All that the reader keeps as it reads, with the run, which no call tells."""

import unittest

from markreader.state import Reader
from markreader.steps import read_end, read_signs
from tests.calls import WAYS, signs


def reader_behind(*parts):
    reader = Reader()
    read_signs(reader, signs(*parts))
    return reader


def kept(reader):
    return [reader.read_count, len(reader.tokens), list(reader.attributes.items()), reader.tag_name,
            reader.attribute_name, reader.body, reader.run, reader.marks]


class Kept(unittest.TestCase):
    def test_names_body_and_run(self):
        for text, expected in (
            ("a&l", [3, 0, [], [], [], signs("l"), signs("a"), []]),
            ("a&lt;", [5, 0, [], [], [], [], signs("a<"), []]),
            ("a<bc", [4, 1, [], signs("bc"), [], [], [], []]),
            ("a</bc", [5, 1, [], signs("bc"), [], [], [], []]),
            ("<a b c=d ef", [11, 0, [((98,), []), ((99,), [100])], signs("a"), signs("ef"), [], [], []]),
            ("<a b='x&#6", [10, 0, [], signs("a"), signs("b"), signs("#6"), signs("x"), []]),
            ("<a b>", [5, 1, [], [], [], [], [], []]),
            ("<a b/", [5, 0, [((98,), [])], signs("a"), [], [], [], []]),
            ("<a b/>", [6, 1, [], [], [], [], [], []]),
            ("</a>", [4, 1, [], [], [], [], [], []]),
            ("<!--a-b--", [9, 0, [], [], [], [], signs("a-b"), []]),
            ("<calc b>1<2</ca", [15, 1, [], signs("calc"), [], signs("ca"), signs("1<2"), []]),
            ("<calc b>1<2</calc>", [18, 3, [], [], [], [], [], []]),
        ):
            self.assertEqual(kept(reader_behind(text)), expected, text)

    def test_a_faulty_reader_keeps_what_it_had(self):
        for way, wrong in (("a&am", "-"), ("a&ampx", ";"), ("a&ampx", "x"), ("b<", "1"), ("<" + "a" * 32, "a"),
                           ("<a b c=d b", "="), ("<a b c=d b", ">"), ("<a b='x&l", "'"), ("<a b=x", "'"),
                           ("<a b", "\""), ("<!--a-", 256), ("<!--a--", 256), ("<verb>a", 256), ("<calc>a<", 256),
                           ("<a/", "a"), ("<calc>a</ca", "x"), ("<calc>a</calc", " "), ("</", ">"), ("</a", " ")):
            faulty = reader_behind(way, wrong)
            self.assertEqual(faulty.mode, 26, way)
            self.assertEqual(kept(faulty), kept(reader_behind(way)), way)

    def test_a_reader_that_ends_too_early_keeps_what_it_had(self):
        for mode in range(1, 25):
            for way in WAYS[mode]:
                reader = reader_behind(way)
                read_end(reader)
                self.assertEqual(reader.mode, 26)
                self.assertEqual(kept(reader), kept(reader_behind(way)), way)


if __name__ == "__main__":
    unittest.main()
