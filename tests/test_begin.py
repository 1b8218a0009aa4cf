"""Promise 1: begin."""

import unittest

from tests.calls import BEGIN, END, FAULT, MOST_SIGNS, TOKENS, ask, feed, whole


class Begin(unittest.TestCase):
    def test_begin_answers_0_on_a_new_reader(self):
        self.assertEqual(ask(BEGIN), [[0]])
        self.assertEqual(ask(BEGIN, BEGIN, TOKENS, FAULT), [[0], [0], [0], [0, 0]])

    def test_begin_behind_tokens_forgets_them(self):
        self.assertEqual(ask(feed("<a>b</a>"), TOKENS, BEGIN, TOKENS), [[0], [3], [0], [0]])

    def test_begin_behind_a_fault_forgets_it(self):
        self.assertEqual(ask(feed("<a><"), feed("1"), FAULT, BEGIN, FAULT, TOKENS, feed("a"), END, TOKENS),
                         [[0], [1], [1, 4], [0], [0, 0], [0], [0], [0], [1]])

    def test_begin_behind_the_end_reads_again(self):
        self.assertEqual(ask(feed("a"), END, feed("a"), BEGIN, feed("<"), END, FAULT),
                         [[0], [0], [-2], [0], [0], [1], [7, 1]])
        self.assertEqual(ask(whole("a"), BEGIN, END, TOKENS), [[0], [0], [0], [0]])

    def test_begin_forgets_the_run(self):
        self.assertEqual(ask(feed("a"), BEGIN, END, TOKENS), [[0], [0], [0], [0]])

    def test_begin_forgets_the_mode_and_the_body(self):
        self.assertEqual(ask(feed("&amp"), BEGIN, feed("&lt;"), FAULT), [[0], [0], [0], [0, 0]])

    def test_begin_forgets_names_and_attributes(self):
        self.assertEqual(ask(feed("<a b=c"), BEGIN, feed("<a b>"), FAULT), [[0], [0], [0], [0, 0]])
        self.assertEqual(ask(feed("<a b='"), BEGIN, feed("<c d=e b>"), TOKENS), [[0], [0], [0], [1]])

    def test_begin_forgets_the_count(self):
        full = feed("a" * MOST_SIGNS)
        self.assertEqual(ask(full, feed("a"), BEGIN, feed("a")), [[0], [-3], [0], [0]])
        self.assertEqual(ask(feed("abc"), BEGIN, feed("a<1"), FAULT), [[0], [0], [1], [1, 2]])


if __name__ == "__main__":
    unittest.main()
