"""Promise 3: end."""

import unittest

from tests.calls import END, FAULT, TOKENS, WAYS, ask, feed, whole


class End(unittest.TestCase):
    def test_in_text_without_a_run(self):
        self.assertEqual(ask(END, TOKENS, FAULT), [[0], [0], [0, 0]])
        self.assertEqual(ask(feed("<a>"), END, TOKENS, FAULT), [[0], [0], [1], [0, 0]])

    def test_in_text_with_a_run(self):
        for run in (["a"], ["&lt;"], [256], ["a", 256, "&#0;"], [0], ["b>c"]):
            self.assertEqual(ask(feed(*run), TOKENS, END, TOKENS, FAULT), [[0], [0], [0], [1], [0, 0]])
            self.assertEqual(ask(feed("<a/>", *run), TOKENS, END, TOKENS, FAULT), [[0], [1], [0], [2], [0, 0]])

    def test_in_every_other_mode_a_fault_of_kind_7(self):
        for mode in range(1, 25):
            for way in WAYS[mode]:
                calls = [feed(way), FAULT, END, FAULT]
                self.assertEqual(ask(*calls), [[0], [0, 0], [1], [7, len(way)]], way)

    def test_the_tokens_behind_a_fault_of_kind_7_are_those_of_before(self):
        for mode in range(1, 25):
            for way in WAYS[mode]:
                asked = ask(feed(way), TOKENS, END, TOKENS)
                self.assertEqual(asked[1], asked[3], way)

    def test_behind_an_end_minus_2(self):
        self.assertEqual(ask(END, END, FAULT), [[0], [-2], [0, 0]])
        self.assertEqual(ask(feed("a"), END, END, TOKENS, FAULT), [[0], [0], [-2], [1], [0, 0]])
        self.assertEqual(ask(whole("a"), END, TOKENS), [[0], [-2], [1]])

    def test_behind_a_fault_minus_2(self):
        self.assertEqual(ask(feed("a<1"), END, FAULT, TOKENS), [[1], [-2], [1, 2], [1]])
        self.assertEqual(ask(feed("a<"), END, END, FAULT, TOKENS), [[0], [1], [-2], [7, 2], [1]])
        self.assertEqual(ask(whole("<<"), END, FAULT), [[1], [-2], [1, 1]])


if __name__ == "__main__":
    unittest.main()
