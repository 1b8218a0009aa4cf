"""What the reader keeps as it reads: its mode and names, its tokens and marks."""

import unittest

from markreader.state import Reader
from markreader.steps import read_end, read_signs
from tests.calls import WAYS, signs


def reader_behind(*parts):
    reader = Reader()
    read_signs(reader, signs(*parts))
    return reader


def kept(reader):
    return [reader.read_count, len(reader.tokens), list(reader.attributes.items()), reader.tag_name,
            reader.attribute_name, reader.body, reader.run, reader.marks]


def tokens_of(*parts):
    """Of each token its kind, place and signs, and of an open tag its attributes and whether it is ended."""
    reader = reader_behind(*parts)
    if reader.mode == 0:
        read_end(reader)
    told = []
    for token in reader.tokens:
        attributes = [(list(name), value) for name, value in token.attributes.items()]
        told.append([token.kind, token.place, token.signs] + ([attributes, token.ended] if token.kind == 1 else []))
    return told


class Modes(unittest.TestCase):
    def test_the_way_to_each_mode(self):
        for mode in WAYS:
            for way in WAYS[mode]:
                self.assertEqual(reader_behind(way).mode, mode, way)

    def test_ended_and_faulty(self):
        reader = reader_behind("a")
        read_end(reader)
        self.assertEqual(reader.mode, 25)
        self.assertEqual(reader_behind("<<").mode, 26)

    def test_names_body_and_run(self):
        for text, expected in (
            ("a&l", [3, 0, [], [], [], signs("l"), signs("a"), []]),
            ("a&lt;", [5, 0, [], [], [], [], signs("a<"), []]),
            ("a<bc", [4, 1, [], signs("bc"), [], [], [], []]),
            ("a</bc", [5, 1, [], signs("bc"), [], [], [], []]),
            ("<a b c=d ef", [11, 0, [((98,), []), ((99,), [100])], signs("a"), signs("ef"), [], [], []]),
            ("<a b='x&#6", [10, 0, [], signs("a"), signs("b"), signs("#6"), signs("x"), []]),
            ("<a b>", [5, 1, [], [], [], [], [], []]),
            ("<a b/", [5, 0, [((98,), [])], signs("a"), [], [], [], []]),
            ("<a b/>", [6, 1, [], [], [], [], [], []]),
            ("</a>", [4, 1, [], [], [], [], [], []]),
            ("<!--a-b--", [9, 0, [], [], [], [], signs("a-b"), []]),
            ("<calc b>1<2</ca", [15, 1, [], signs("calc"), [], signs("ca"), signs("1<2"), []]),
            ("<calc b>1<2</calc>", [18, 3, [], [], [], [], [], []]),
        ):
            self.assertEqual(kept(reader_behind(text)), expected, text)

    def test_the_state_of_the_documents_example(self):
        reader = reader_behind("<a b=", 256)
        self.assertEqual([reader.mode, reader.read_count, len(reader.attributes)], [15, 6, 1])
        self.assertEqual([reader.tag_name, reader.attribute_name, reader.body], [[97], [], []])

    def test_a_faulty_reader_keeps_what_it_had(self):
        for way, wrong in (("a&am", "-"), ("a&ampx", ";"), ("a&ampx", "x"), ("b<", "1"), ("<" + "a" * 32, "a"),
                           ("<a b c=d b", "="), ("<a b c=d b", ">"), ("<a b='x&l", "'"), ("<a b=x", "'"),
                           ("<a b", "\""), ("<!--a-", 256), ("<!--a--", 256), ("<verb>a", 256), ("<calc>a<", 256),
                           ("<a/", "a"), ("<calc>a</ca", "x"), ("<calc>a</calc", " "), ("</", ">"), ("</a", " ")):
            faulty = reader_behind(way, wrong)
            self.assertEqual(faulty.mode, 26, way)
            self.assertEqual(kept(faulty), kept(reader_behind(way)), way)

    def test_a_reader_that_ends_too_early_keeps_what_it_had(self):
        for mode in range(1, 25):
            for way in WAYS[mode]:
                reader = reader_behind(way)
                read_end(reader)
                self.assertEqual(reader.mode, 26)
                self.assertEqual(kept(reader), kept(reader_behind(way)), way)


class Tokens(unittest.TestCase):
    def test_the_documents_example(self):
        self.assertEqual(tokens_of("a&lt;<b c='x\"' d/>"),
                         [[0, 0, [97, 60]], [1, 5, [98], [([99], signs('x"')), ([100], [])], 1]])

    def test_runs_of_text(self):
        self.assertEqual(tokens_of("&amp;&lt;&gt;&quot;&apos;"), [[0, 0, signs("&<>\"'")]])
        self.assertEqual(tokens_of("&#7;&#07;&#007;&#255;&#xA;&#xfF;&#x0;"), [[0, 0, [7, 7, 7, 255, 10, 255, 0]]])
        self.assertEqual(tokens_of("<a>&lt;b</a>c"),
                         [[1, 0, [97], [], 0], [0, 3, signs("<b")], [2, 8, [97]], [0, 12, [99]]])
        self.assertEqual(tokens_of(300, "&#65;", 301), [[0, 0, [300, 65, 301]]])

    def test_open_tags(self):
        self.assertEqual(tokens_of("<a b c='1&lt;' d=\"'\" e=/>"),
                         [[1, 0, [97], [([98], []), ([99], signs("1<")), ([100], signs("'")), ([101], signs("/"))], 0]])
        self.assertEqual(tokens_of("<a b=", 256, " c=x", 257, "&gt;>"),
                         [[1, 0, [97], [([98], [256]), ([99], [120, 257, 62])], 0]])
        self.assertEqual(tokens_of("<a b=&lt;><a c='", 258, "'/>"),
                         [[1, 0, [97], [([98], [60])], 0], [1, 10, [97], [([99], [258])], 1]])

    def test_comments(self):
        for text, inside in (("<!---->", ""), ("<!--a-->", "a"), ("<!----->", "-"), ("<!------>", "--"),
                             ("<!-->-->", ">"), ("<!--->-->", "->"), ("<!--a-b--c---d->-->", "a-b--c---d->"),
                             ("<!--&lt;<a>-->", "&lt;<a>")):
            self.assertEqual(tokens_of("x", text, "y"),
                             [[0, 0, [120]], [3, 1, signs(inside)], [0, 1 + len(text), [121]]], text)

    def test_raw_text(self):
        for name in ("calc", "verb"):
            for inside in ("1", "<", "<<", "<<<", "a<b", "<a>&lt;", "a<", "< /calc>", "<!-- -->"):
                self.assertEqual(tokens_of(f"<{name}>{inside}</{name}>"),
                                 [[1, 0, signs(name), [], 0], [4, 6, signs(inside)], [2, 6 + len(inside), signs(name)]])
            self.assertEqual(tokens_of(f"<{name}></{name}>"), [[1, 0, signs(name), [], 0], [2, 6, signs(name)]])

    def test_what_stands_behind_raw_text_has_its_place(self):
        self.assertEqual([token[:2] for token in tokens_of("<calc a>", 256, "</calc>b<verb></verb><c>")],
                         [[1, 0], [4, 8], [2, 9], [0, 16], [1, 17], [2, 23], [1, 30]])


class Marks(unittest.TestCase):
    def test_each_mark_with_its_spot(self):
        reader = reader_behind(256, "<a b=", 257, " c=x", 258, " d='", 259, "' e=\"", 260, "\"><calc>", 261, 65535)
        self.assertEqual(reader.marks, [(256, 0), (257, 4), (258, 3), (259, 2), (260, 1), (261, 5), (65535, 5)])

    def test_a_mark_that_is_a_fault_is_not_noted(self):
        self.assertEqual(reader_behind(256, "<", 257).marks, [(256, 0)])
        self.assertEqual(reader_behind("<verb>", 257).marks, [])


if __name__ == "__main__":
    unittest.main()
