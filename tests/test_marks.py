"""Promise 8: marks, and the spot of each."""

import unittest

from tests.calls import BEGIN, END, FAULT, MARKS, MOST_SIGNS, WAYS, ask, ask_last, feed, signs, whole

# For each mode that takes marks the spot; raw text takes them in calc alone.
SPOTS = {0: 0, 11: 4, 12: 1, 13: 2, 14: 3, 22: 5}


def takes_marks(mode, way):
    return mode in SPOTS and not way.startswith("<verb")


class Spots(unittest.TestCase):
    def test_none_in_a_new_reader(self):
        self.assertEqual(ask(MARKS), [[0]])
        self.assertEqual(ask_last(feed("a<b c=d>", 255), MARKS), [0])

    def test_the_spot_behind_each_way_to_a_mode_that_takes_marks(self):
        for mode in WAYS:
            for way in WAYS[mode]:
                for mark in (256, 300, 65535):
                    expected = [1, mark, SPOTS[mode]] if takes_marks(mode, way) else [0]
                    self.assertEqual(ask_last(feed(way, mark), MARKS), expected, (way, mark))

    def test_each_spot_in_one_text(self):
        text = signs(256, "<a b=", 257, " c=x", 258, " d='", 259, "' e=\"", 260, "\"><calc>", 261, "</calc>", 65535)
        expected = [7, 256, 0, 257, 4, 258, 3, 259, 2, 260, 1, 261, 5, 65535, 0]
        self.assertEqual(ask(whole(*text), MARKS), [[0], expected])
        self.assertEqual(ask(feed(*text), MARKS, END, MARKS), [[0], expected, [0], expected])
        for cut in range(len(text) + 1):
            self.assertEqual(ask_last(feed(*text[:cut]), feed(*text[cut:]), MARKS), expected, cut)

    def test_the_spot_behind_a_reference(self):
        for ahead, spot in (("&lt;", 0), ("<a b=\"&lt;", 1), ("<a b='&lt;", 2), ("<a b=&lt;", 3)):
            self.assertEqual(ask_last(feed(ahead, 256), MARKS), [1, 256, spot], ahead)

    def test_marks_one_behind_another(self):
        self.assertEqual(ask_last(feed(300, 300, 256), MARKS), [3, 300, 0, 300, 0, 256, 0])
        self.assertEqual(ask_last(feed("<a b=x", 256, 257, "y", 258), MARKS), [3, 256, 3, 257, 3, 258, 3])
        self.assertEqual(ask_last(feed("<a b='", 256, 256), MARKS), [2, 256, 2, 256, 2])
        self.assertEqual(ask_last(feed("<calc>", 256, "<a", 257, "<</calc>", 258), MARKS), [3, 256, 5, 257, 5, 258, 0])

    def test_a_mark_counts_while_its_token_is_not_whole(self):
        self.assertEqual(ask(feed("<a b=\"", 256), MARKS, feed("\">"), MARKS), [[0], [1, 256, 1], [0], [1, 256, 1]])

    def test_255_is_no_mark(self):
        self.assertEqual(ask_last(feed(255, 256), MARKS), [1, 256, 0])


class Behind(unittest.TestCase):
    def test_a_mark_that_is_a_fault_is_not_noted(self):
        self.assertEqual(ask(feed(256, "<", 257), FAULT, MARKS), [[1], [5, 2], [1, 256, 0]])
        self.assertEqual(ask(feed("<verb>", 257), FAULT, MARKS), [[1], [5, 6], [0]])
        self.assertEqual(ask(feed("<a b=", 256, 257), FAULT, MARKS), [[1], [5, 6], [1, 256, 4]])
        self.assertEqual(ask(feed("<calc><", 257), FAULT, MARKS), [[1], [5, 7], [0]])

    def test_a_fault_keeps_the_marks_ahead_of_it_alone(self):
        self.assertEqual(ask(feed(256, "<a b='", 257, "'x", 258), MARKS), [[1], [2, 256, 0, 257, 2]])
        self.assertEqual(ask(feed("<a b=", 256), END, MARKS), [[0], [1], [1, 256, 4]])

    def test_begin_and_whole_forget_them(self):
        self.assertEqual(ask(feed(256), BEGIN, MARKS), [[0], [0], [0]])
        self.assertEqual(ask(feed(256), whole(257), MARKS), [[0], [0], [1, 257, 0]])

    def test_a_refused_call_notes_none(self):
        self.assertEqual(ask(feed(256), feed(257, 65536), MARKS), [[0], [-1], [1, 256, 0]])
        self.assertEqual(ask(feed(256), feed(*[257] * MOST_SIGNS), MARKS), [[0], [-3], [1, 256, 0]])
        self.assertEqual(ask(feed(256), END, feed(257), MARKS), [[0], [0], [-2], [1, 256, 0]])
        self.assertEqual(ask(feed(256), whole(257, -1), MARKS), [[0], [-1], [1, 256, 0]])
        self.assertEqual(ask(feed(256), whole(*[257] * (MOST_SIGNS + 1)), MARKS), [[0], [-3], [1, 256, 0]])

    def test_the_most_marks(self):
        marks = [256 + k for k in range(MOST_SIGNS)]
        self.assertEqual(ask_last(whole(*marks), MARKS), [MOST_SIGNS] + [part for mark in marks for part in (mark, 0)])


if __name__ == "__main__":
    unittest.main()
