"""Promise 10: whole."""

import unittest

from tests.calls import (
    BEGIN, END, FAULT, MOST_SIGNS, STATE, TELLING, TOKENS, WAYS, WRITTEN, ask, feed, signs, token, whole,
)


class Whole(unittest.TestCase):
    def test_on_a_new_reader(self):
        self.assertEqual(ask(whole(), TOKENS, FAULT), [[0], [0], [0, 0]])
        self.assertEqual(ask(whole("a"), TOKENS, FAULT), [[0], [1], [0, 0]])
        self.assertEqual(ask(whole("<a>b</a>"), TOKENS, FAULT), [[0], [3], [0, 0]])

    def test_as_begin_feed_and_end(self):
        for mode in WAYS:
            for way in WAYS[mode]:
                for ahead in ([], [feed("a<b")], [feed("<1")], [END], [feed("&am")], [feed(256, "<a b='c' d")]):
                    apart = ask(*ahead, BEGIN, feed(way), END, *TELLING)
                    self.assertEqual(ask(*ahead, whole(way), *TELLING)[len(ahead):], apart[len(ahead) + 2:], way)

    def test_as_begin_and_feed_where_there_is_a_fault_then(self):
        for text in ("<a b=c b>d", "x&;y", "<calc>1</calx", "a<1<b>"):
            for ahead in ([], [feed("a<b c")], [whole("a")], [feed("&am")], [feed(256, "<1")]):
                apart = ask(*ahead, BEGIN, feed(text), *TELLING)
                self.assertEqual(ask(*ahead, whole(text), *TELLING)[len(ahead):], apart[len(ahead) + 1:], text)

    def test_the_end_has_come_behind_it(self):
        self.assertEqual(ask(whole("a"), feed("a"), END, TOKENS, FAULT), [[0], [-2], [-2], [1], [0, 0]])

    def test_no_end_behind_a_fault(self):
        self.assertEqual(ask(whole("<a><1"), FAULT, TOKENS), [[1], [1, 4], [1]])
        self.assertEqual(ask(whole("a&;"), FAULT, TOKENS), [[1], [4, 2], [0]])

    def test_behind_a_fault_never_minus_2(self):
        self.assertEqual(ask(feed("a<1"), whole("<b>"), FAULT, TOKENS), [[1], [0], [0, 0], [1]])
        self.assertEqual(ask(whole("a<"), whole("a"), FAULT, TOKENS), [[1], [0], [0, 0], [1]])

    def test_behind_an_end_never_minus_2(self):
        self.assertEqual(ask(feed("a"), END, whole("a<"), FAULT, TOKENS), [[0], [0], [1], [7, 2], [1]])
        self.assertEqual(ask(whole("a"), whole("<b></b>"), TOKENS), [[0], [0], [2]])

    def test_behind_pieces_the_reader_is_new(self):
        self.assertEqual(ask(feed("<a b c="), whole("b"), TOKENS, FAULT), [[0], [0], [1], [0, 0]])

    def test_minus_1_for_what_is_no_sign(self):
        for number in (-1, 65536, -2147483648, 2147483647):
            for parts in ([number], ["a", number], [number, "a"], ["<<", number]):
                self.assertEqual(ask(whole(*parts), TOKENS, FAULT), [[-1], [0], [0, 0]])
        self.assertEqual(ask(whole(0, 65535), TOKENS), [[0], [1]])

    def test_minus_3_for_more_than_16384(self):
        self.assertEqual(ask(whole("a" * MOST_SIGNS), TOKENS), [[0], [1]])
        self.assertEqual(ask(whole("a" * (MOST_SIGNS + 1)), TOKENS), [[-3], [0]])
        self.assertEqual(ask(whole("a" * 20000), TOKENS), [[-3], [0]])
        self.assertEqual(ask(whole("<<" + "a" * MOST_SIGNS), FAULT), [[-3], [0, 0]])

    def test_what_was_read_before_does_not_count(self):
        self.assertEqual(ask(feed("a" * 10000), whole("b" * MOST_SIGNS), TOKENS), [[0], [0], [1]])

    def test_minus_1_comes_ahead_of_minus_3(self):
        self.assertEqual(ask(whole("a" * 19999, 65536), whole("a" * 9000)), [[-1], [0]])

    def test_refused_it_leaves_the_reader_as_it_was(self):
        for wrong, number in ((whole(-1), -1), (whole("a", 65536), -1), (whole("a" * 16385), -3)):
            for mode in WAYS:
                for way in WAYS[mode]:
                    self.assertEqual(ask(feed(way), wrong, TOKENS, END, FAULT, TOKENS)[1:],
                                     [[number]] + ask(feed(way), TOKENS, END, FAULT, TOKENS)[1:], way)
            self.assertEqual(ask(feed("a<1"), wrong, FAULT, TOKENS, END), [[1], [number], [1, 2], [1], [-2]])
            self.assertEqual(ask(feed("a"), END, wrong, FAULT, TOKENS, END), [[0], [0], [number], [0, 0], [1], [-2]])


class Examples(unittest.TestCase):
    def test_the_examples_of_the_document(self):
        for text, answer, fault, tokens in (
            ("a&lt;<b c='x\"' d/>", 0, [0, 0], 2),
            ("<a b=c b>", 1, [3, 8], 0),
            ("&#256;", 1, [4, 5], 0),
            ("<calc>1<2</calc ", 1, [6, 15], 1),
            ("a<b c=", 1, [7, 6], 1),
        ):
            self.assertEqual(ask(whole(text), FAULT, TOKENS), [[answer], fault, [tokens]], text)

    def test_the_tokens_of_the_first_and_what_they_are_written_as(self):
        form = signs("a&lt;<b c=\"x&quot;\" d=\"\"/>")
        self.assertEqual(ask(whole("a&lt;<b c='x\"' d/>"), token(0), token(1), WRITTEN),
                         [[0], [0, 0, 97, 60], [1, 5, 1, 1, 98, 2, 1, 99, 2, 120, 34, 1, 100, 0], [len(form)] + form])
        self.assertEqual(ask(whole(*form), FAULT, TOKENS, WRITTEN), [[0], [0, 0], [2], [len(form)] + form])

    def test_the_token_of_the_last(self):
        self.assertEqual(ask(whole("a<b c="), token(0), token(1)), [[1], [0, 0, 97], [-4]])

    def test_a_mark_behind_equals(self):
        self.assertEqual(ask(feed("<a b=", 256), STATE, FAULT, feed(">"), END, TOKENS),
                         [[0], [15, 6, 1, 1, 97, 0, 0], [0, 0], [0], [0], [1]])


if __name__ == "__main__":
    unittest.main()
