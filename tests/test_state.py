"""Promise 7: state."""

import unittest

from tests.calls import BEGIN, END, MOST_SIGNS, STATE, WAYS, ask, ask_last, feed, listed, signs, whole

NAME = "n" * 32

# Texts, and behind each the mode, how many attributes are whole, the tag name, the attribute name and the body.
STATES = (
    ("", 0, 0, "", "", ""),
    ("ab", 0, 0, "", "", ""),
    ("a&", 1, 0, "", "", ""),
    ("a&l", 1, 0, "", "", "l"),
    ("a&#x4", 1, 0, "", "", "#x4"),
    ("a&quot", 1, 0, "", "", "quot"),
    ("a&quot;", 0, 0, "", "", ""),
    ("<a b=\"x&", 2, 0, "a", "b", ""),
    ("<a b=\"x&am", 2, 0, "a", "b", "am"),
    ("<a b c='x&#6", 3, 1, "a", "c", "#6"),
    ("<a b=&g", 4, 0, "a", "b", "g"),
    ("<a b=x&Zz9#", 4, 0, "a", "b", "Zz9#"),
    ("a<", 5, 0, "", "", ""),
    ("<ab-1", 6, 0, "ab-1", "", ""),
    ("<" + NAME, 6, 0, NAME, "", ""),
    ("<a></", 7, 0, "", "", ""),
    ("</bc", 8, 0, "bc", "", ""),
    ("</" + NAME, 8, 0, NAME, "", ""),
    ("<a ", 9, 0, "a", "", ""),
    ("<ab c d='e' ", 9, 2, "ab", "", ""),
    ("<ab c=d  ", 9, 1, "ab", "", ""),
    ("<a b", 10, 0, "a", "b", ""),
    ("<a b c=d ef", 10, 2, "a", "ef", ""),
    ("<a b " + NAME, 10, 1, "a", NAME, ""),
    ("<a b b", 10, 1, "a", "b", ""),
    ("<a b c=", 11, 1, "a", "c", ""),
    ("<a bc=\"", 12, 0, "a", "bc", ""),
    ("<a bc=\"x&lt;", 12, 0, "a", "bc", ""),
    ("<a bc='y", 13, 0, "a", "bc", ""),
    ("<a b c=y", 14, 1, "a", "c", ""),
    ("<a c=&#65;", 14, 0, "a", "c", ""),
    ("<a b='c'", 15, 1, "a", "", ""),
    ("<a b c=\"\"", 15, 2, "a", "", ""),
    ("<a/", 16, 0, "a", "", ""),
    ("<a b/", 16, 1, "a", "", ""),
    ("<calc b='c'/", 16, 1, "calc", "", ""),
    ("a<!", 17, 0, "", "", ""),
    ("a<!-", 18, 0, "", "", ""),
    ("a<!--b", 19, 0, "", "", ""),
    ("<!--b-", 20, 0, "", "", ""),
    ("<!--b---", 21, 0, "", "", ""),
    ("<calc>", 22, 0, "calc", "", ""),
    ("<calc b=c d>1", 22, 0, "calc", "", ""),
    ("<verb>1<2", 22, 0, "verb", "", ""),
    ("<verb>1<", 23, 0, "verb", "", ""),
    ("<calc>1</", 24, 0, "calc", "", ""),
    ("<calc>1</ca", 24, 0, "calc", "", "ca"),
    ("<verb></verb", 24, 0, "verb", "", "verb"),
    ("<verb></verb>", 0, 0, "", "", ""),
    ("<calc b/>", 0, 0, "", "", ""),
    ("<a b=c d>", 0, 0, "", "", ""),
    ("<a b/>", 0, 0, "", "", ""),
    ("</a>", 0, 0, "", "", ""),
    ("<!--a-->", 0, 0, "", "", ""),
)

# For each mode in which a sign can be a fault, such signs.
WRONG_SIGNS = {
    1: ["-", "&", 256],
    2: ["\"", "&", 256],
    3: ["'", "&", 256],
    4: [" ", ">", 256],
    5: [">", "A", 256],
    6: ["A", "\"", 256],
    7: [">", "1", 256],
    8: [" ", "/", 256],
    9: ["=", "1", 256],
    10: ["\"", "A", 256],
    11: [" ", ">", "="],
    14: ["\"", "<", "="],
    15: ["x", "=", 256],
    16: [" ", "/", 256],
    17: [">", "a", 256],
    18: [">", "a", 256],
    19: [256],
    20: [256],
    21: [256],
    22: [256],
    23: [256],
    24: [" ", "/", 256],
}


def told(mode, read, attributes, *names):
    return [mode, read, attributes] + listed(*names)


class State(unittest.TestCase):
    def test_of_a_new_reader(self):
        self.assertEqual(ask(STATE), [[0, 0, 0, 0, 0, 0]])
        self.assertEqual(ask_last(feed(), STATE), [0, 0, 0, 0, 0, 0])

    def test_the_documents_example(self):
        self.assertEqual(ask(feed("<a b=", 256), STATE), [[0], [15, 6, 1, 1, 97, 0, 0]])

    def test_the_mode_behind_each_way_to_it(self):
        for mode in WAYS:
            for way in WAYS[mode]:
                self.assertEqual(ask_last(feed(way), STATE)[:2], [mode, len(way)], way)

    def test_names_and_body(self):
        for text, mode, *rest in STATES:
            self.assertEqual(ask_last(feed(text), STATE), told(mode, len(text), *rest), text)

    def test_every_mode_is_among_these(self):
        self.assertEqual(sorted({mode for text, mode, *rest in STATES}), list(range(25)))

    def test_a_mark_leaves_the_mode_but_behind_equals(self):
        for ahead, mode, *rest in (("a", 0, 0, "", "", ""), ("<a b=\"", 12, 0, "a", "b", ""),
                                   ("<a b='", 13, 0, "a", "b", ""), ("<a b=c", 14, 0, "a", "b", ""),
                                   ("<a b c=", 15, 2, "a", "", ""), ("<calc>", 22, 0, "calc", "", "")):
            self.assertEqual(ask_last(feed(ahead, 65535), STATE), told(mode, len(ahead) + 1, *rest), ahead)

    def test_sign_by_sign(self):
        text = "<a b='&lt;' c>"
        asked = ask(*[call for sign in text for call in (feed(sign), STATE)])[1::2]
        self.assertEqual([given[0] for given in asked], [5, 6, 9, 10, 11, 13, 3, 3, 3, 13, 15, 9, 10, 0])
        self.assertEqual([given[1] for given in asked], list(range(1, 15)))
        self.assertEqual([given[2] for given in asked], [0] * 10 + [1] * 3 + [0])


class BehindTheEnd(unittest.TestCase):
    def test_ended(self):
        self.assertEqual(ask(END, STATE), [[0], [25, 0, 0, 0, 0, 0]])
        for way in WAYS[0]:
            self.assertEqual(ask_last(feed(way), END, STATE), [25, len(way), 0, 0, 0, 0], way)
            self.assertEqual(ask_last(whole(way), STATE), [25, len(way), 0, 0, 0, 0], way)

    def test_begin_makes_it_new(self):
        for ahead in (feed("<a b c=&am"), feed("<a b b>"), whole("a"), feed("<calc>a</ca")):
            self.assertEqual(ask(ahead, BEGIN, STATE)[1:], [[0], [0, 0, 0, 0, 0, 0]])


class BehindAFault(unittest.TestCase):
    def check_kept(self, text, rest, *wrong):
        """The wrong sign behind the text is a fault, and but for the mode the state stays."""
        self.assertEqual(ask(feed(text), feed(*wrong), STATE), [[0], [1], told(26, len(text), *rest)], (text, wrong))
        self.assertEqual(ask(feed(text, *wrong, "a<b>"), STATE), [[1], told(26, len(text), *rest)], (text, wrong))

    def test_a_wrong_sign_in_each_mode_that_can_have_one(self):
        seen = []
        for text, mode, *rest in STATES:
            for sign in WRONG_SIGNS.get(mode, []):
                # Raw text takes marks in calc.
                if mode == 22 and text.startswith("<calc"):
                    continue
                self.check_kept(text, rest, sign)
                seen.append(mode)
        self.assertEqual(sorted(set(seen)), sorted(WRONG_SIGNS))

    def test_the_end_in_each_mode_that_can_have_one(self):
        for text, mode, *rest in STATES:
            if mode != 0:
                self.assertEqual(ask_last(feed(text), END, STATE), told(26, len(text), *rest), text)
                self.assertEqual(ask_last(whole(text), STATE), told(26, len(text), *rest), text)

    def test_long_names_and_bodies(self):
        for text, *rest in (("<" + NAME, 0, NAME, "", ""), ("</" + NAME, 0, NAME, "", ""),
                            ("<a b " + NAME, 1, "a", NAME, ""), ("&quot", 0, "", "", "quot"),
                            ("<a b=&apos", 0, "a", "b", "apos")):
            self.check_kept(text, rest, "n")

    def test_an_attribute_twice(self):
        for sign in "\t\n\r />=":
            self.check_kept("<a b c=d b", [2, "a", "b", ""], sign)

    def test_no_reference(self):
        self.check_kept("&#256", [0, "", "", "#256"], ";")
        self.check_kept("<a b=\"c&", [0, "a", "b", ""], ";")
        self.check_kept("<a b='c&lT", [0, "a", "b", "lT"], ";")
        self.check_kept("<a b c=&#x", [1, "a", "c", "#x"], ";")

    def test_it_stays_behind_refused_calls(self):
        self.assertEqual(ask(feed("<a b=c b>"), STATE, feed("a"), END, STATE),
                         [[1], told(26, 8, 1, "a", "b", ""), [-2], [-2], told(26, 8, 1, "a", "b", "")])

    def test_the_documents_examples(self):
        for text, expected in (("<a b=c b>", told(26, 8, 1, "a", "b", "")), ("&#256;", told(26, 5, 0, "", "", "#256")),
                               ("<calc>1<2</calc ", told(26, 15, 0, "calc", "", "calc")),
                               ("a<b c=", told(26, 6, 0, "b", "c", ""))):
            self.assertEqual(ask_last(whole(text), STATE), expected, text)
        self.assertEqual(ask_last(whole("a&lt;<b c='x\"' d/>"), STATE), told(25, 18, 0, "", "", ""))


class Longest(unittest.TestCase):
    def test_the_largest_count(self):
        self.assertEqual(ask_last(feed("a" * MOST_SIGNS), STATE), told(0, MOST_SIGNS, 0, "", "", ""))
        self.assertEqual(ask_last(feed("a" * MOST_SIGNS), feed("a"), STATE), told(0, MOST_SIGNS, 0, "", "", ""))
        self.assertEqual(ask_last(whole("a" * MOST_SIGNS), STATE), told(25, MOST_SIGNS, 0, "", "", ""))
        self.assertEqual(ask_last(whole("a" * (MOST_SIGNS - 1), "<"), STATE), told(26, MOST_SIGNS, 0, "", "", ""))

    def test_the_most_attributes(self):
        names = " ".join([f"a{k}" for k in range(2500)])
        text = signs("<a ", names, " ")
        self.assertEqual(ask_last(feed(*text), STATE), told(9, len(text), 2500, "a", "", ""))


if __name__ == "__main__":
    unittest.main()
