"""Promise 2: feed."""

import unittest

from tests.calls import END, FAULT, MOST_SIGNS, TOKENS, WAYS, ask, feed, signs, whole

LEAST_NUMBER = -2147483648
LARGEST_NUMBER = 2147483647

TEXTS = [
    signs("a&lt;<b c='x\"' d/>"),
    signs("<a b=c b>"),
    signs("&#256;"),
    signs("<calc>1<2</calc "),
    signs("a<b c="),
    signs("<a b=", 256, ">", 257, "<calc>", 258, "<</calc><verb>", 259),
    signs("<!-- a -- b ---></a><verb>x<y</verb>&#x41;&apos;"),
    signs("<a b=&amp;", 300, "/ c='&#65;", 301, "' d=\"", 302, "&quot;\" e/>z"),
    signs("<a" + "b" * 32),
]


class Refusals(unittest.TestCase):
    def test_behind_an_end_and_behind_a_fault_minus_2(self):
        self.assertEqual(ask(feed("a"), END, feed("a"), TOKENS, FAULT), [[0], [0], [-2], [1], [0, 0]])
        self.assertEqual(ask(feed("a<<"), feed("a"), TOKENS, FAULT), [[1], [-2], [1], [1, 2]])
        self.assertEqual(ask(feed("<"), END, feed("a"), FAULT), [[0], [1], [-2], [7, 1]])
        self.assertEqual(ask(whole("a"), feed("a"), TOKENS), [[0], [-2], [1]])

    def test_an_empty_list_is_refused_with_minus_2_too(self):
        self.assertEqual(ask(END, feed()), [[0], [-2]])
        self.assertEqual(ask(feed("&;"), feed(), FAULT), [[1], [-2], [4, 1]])

    def test_what_is_no_sign_minus_1(self):
        for number in (-1, 65536, LEAST_NUMBER, LARGEST_NUMBER):
            for parts in ([number], ["a", number], [number, "a"], ["a", number, "<<"], ["<<", number]):
                self.assertEqual(ask(feed(*parts), END, TOKENS, FAULT), [[-1], [0], [0], [0, 0]], parts)

    def test_0_and_65535_are_signs(self):
        self.assertEqual(ask(feed(0, 65535), END, TOKENS, FAULT), [[0], [0], [1], [0, 0]])

    def test_more_than_16384_signs_minus_3(self):
        self.assertEqual(ask(feed("a" * MOST_SIGNS), feed("<"), END, TOKENS), [[0], [-3], [0], [1]])
        self.assertEqual(ask(feed("a" * (MOST_SIGNS + 1)), END, TOKENS), [[-3], [0], [0]])
        self.assertEqual(ask(feed("a" * 20000), END, TOKENS), [[-3], [0], [0]])

    def test_16384_signs_in_several_feeds(self):
        calls = [feed("ab" * 4096), feed("a"), feed("a" * 8191), feed("a"), feed(), END, TOKENS]
        self.assertEqual(ask(*calls), [[0], [0], [0], [-3], [0], [0], [1]])
        calls = [feed("a"), feed("a" * MOST_SIGNS), feed("a" * (MOST_SIGNS - 1)), feed("<"), TOKENS]
        self.assertEqual(ask(*calls), [[0], [-3], [0], [-3], [0]])

    def test_signs_that_a_fault_would_leave_unread_count_too(self):
        self.assertEqual(ask(feed("<<", "a" * MOST_SIGNS), FAULT), [[-3], [0, 0]])

    def test_minus_2_comes_ahead_of_minus_1_and_minus_3(self):
        for first in ([END], [feed("<<")]):
            for wrong in (feed(-1), feed("a" * 20000), feed("a" * 19999, 65536)):
                self.assertEqual(ask(*first, wrong)[1], [-2])

    def test_minus_1_comes_ahead_of_minus_3(self):
        self.assertEqual(ask(feed("a" * 19999, 65536), FAULT, END, TOKENS), [[-1], [0, 0], [0], [0]])
        self.assertEqual(ask(feed("a" * MOST_SIGNS), feed(-1), feed(1)), [[0], [-1], [-3]])

    def test_a_refused_feed_leaves_every_mode_as_it_was(self):
        for mode in WAYS:
            for way in WAYS[mode]:
                for wrong in (feed(-1), feed("a", 65536), feed("a" * 20000)):
                    asked = ask(feed(way), wrong, TOKENS, END, FAULT, TOKENS)
                    self.assertIn(asked.pop(1), ([-1], [-3]))
                    self.assertEqual(asked, ask(feed(way), TOKENS, END, FAULT, TOKENS), way)


class Reading(unittest.TestCase):
    def test_an_empty_list_changes_nothing(self):
        self.assertEqual(ask(feed(), FAULT, TOKENS, END, TOKENS), [[0], [0, 0], [0], [0], [0]])
        for mode in WAYS:
            for way in WAYS[mode]:
                self.assertEqual(ask(feed(way), feed(), END, FAULT, TOKENS)[1:],
                                 [[0]] + ask(feed(way), END, FAULT, TOKENS)[1:], way)

    def test_1_if_there_is_a_fault_now_else_0(self):
        self.assertEqual(ask(feed("a<"), feed("b")), [[0], [0]])
        self.assertEqual(ask(feed("a<"), feed("1")), [[0], [1]])

    def test_one_piece_two_pieces_and_sign_by_sign_give_the_same(self):
        for text in TEXTS:
            at_once = ask(feed(*text), FAULT, TOKENS, END, FAULT, TOKENS)
            for cut in range(len(text) + 1):
                pieces = ask(feed(*text[:cut]), feed(*text[cut:]), FAULT, TOKENS, END, FAULT, TOKENS)
                self.assertEqual(pieces[2:], at_once[1:], (text, cut))
            calls = [feed(sign) for sign in text]
            pieces = ask(*calls, FAULT, TOKENS, END, FAULT, TOKENS)
            self.assertEqual(pieces[len(text):], at_once[1:], text)

    def test_reading_stops_at_a_fault(self):
        self.assertEqual(ask(feed("a<1<b>c</b>"), FAULT, TOKENS), [[1], [1, 2], [1]])
        self.assertEqual(ask(feed("<1", 256, "&;"), FAULT, TOKENS), [[1], [1, 1], [0]])

    def test_the_longest_texts_are_read(self):
        names = " ".join([f"a{k}" for k in range(2500)])
        self.assertEqual(ask(feed("<a ", names, ">"), FAULT, TOKENS), [[0], [0, 0], [1]])
        self.assertEqual(ask(feed("<a>" * 5461), FAULT, TOKENS), [[0], [0, 0], [5461]])
        self.assertEqual(ask(feed("<!--", "-" * 16379, ">"), FAULT, TOKENS), [[0], [0, 0], [1]])
        self.assertEqual(ask(feed("<verb>", "<" * 16371, "</verb>"), FAULT, TOKENS), [[0], [0, 0], [3]])


if __name__ == "__main__":
    unittest.main()
