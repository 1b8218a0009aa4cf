"""Promise 5: tokens."""

import unittest

from tests.calls import END, FAULT, TOKENS, ask, feed, tokens_behind, whole


class Tokens(unittest.TestCase):
    def check_counts(self, text, counts):
        """counts: how many tokens are whole before the first sign and behind each."""
        calls = [TOKENS]
        for sign in text:
            calls.extend([feed(sign), TOKENS])
        asked = ask(*calls)
        self.assertEqual([answer[0] for answer in asked[::2]], counts, text)

    def test_none_in_a_new_reader(self):
        self.assertEqual(ask(TOKENS), [[0]])
        self.assertEqual(ask(END, TOKENS), [[0], [0]])

    def test_a_run_of_text_is_whole_at_the_next_less_sign(self):
        self.check_counts("ab<", [0, 0, 0, 1])
        self.check_counts("&lt;<", [0, 0, 0, 0, 0, 1])
        self.check_counts("<a><", [0, 0, 0, 1, 1])

    def test_an_open_tag_is_whole_at_its_greater_sign(self):
        self.check_counts("<a>", [0, 0, 0, 1])
        self.check_counts("<a/>", [0, 0, 0, 0, 1])
        self.check_counts("<a b>", [0, 0, 0, 0, 0, 1])
        self.check_counts("<a b=c>", [0] * 7 + [1])
        self.check_counts("<a b='>'>", [0] * 9 + [1])
        self.check_counts("<a b=\">\" c/>", [0] * 12 + [1])

    def test_a_close_tag_is_whole_at_its_greater_sign(self):
        self.check_counts("</a>", [0, 0, 0, 0, 1])
        self.check_counts("</calc>", [0] * 7 + [1])

    def test_a_comment_is_whole_at_the_first_end_behind_its_beginning(self):
        self.check_counts("<!---->", [0] * 7 + [1])
        self.check_counts("<!--->-->", [0] * 9 + [1])
        self.check_counts("<!-->-->", [0] * 8 + [1])
        self.check_counts("<!--a--b->---->", [0] * 15 + [1])
        self.check_counts("<!----->", [0] * 8 + [1])
        self.check_counts("<!---a->-->", [0] * 11 + [1])
        self.check_counts("<!----a->-->", [0] * 12 + [1])
        self.check_counts("<!-- <a> -->", [0] * 12 + [1])

    def test_raw_text_is_whole_with_its_close_tag(self):
        self.check_counts("<calc>1</calc>", [0] * 6 + [1] * 8 + [3])
        self.check_counts("<verb>&<a></verb>", [0] * 6 + [1] * 11 + [3])
        self.check_counts("<calc><</calc>", [0] * 6 + [1] * 8 + [3])
        self.check_counts("<calc><a/b</calc>", [0] * 6 + [1] * 11 + [3])

    def test_empty_raw_text_is_no_token(self):
        self.check_counts("<calc></calc>", [0] * 6 + [1] * 7 + [2])
        self.check_counts("<verb></verb>", [0] * 6 + [1] * 7 + [2])

    def test_an_ended_raw_element_holds_no_raw_text(self):
        self.assertEqual(tokens_behind("<calc/><a>b</a>"), 4)
        self.assertEqual(tokens_behind("<verb/><a>b</a>"), 4)

    def test_behind_a_raw_element_text_goes_on(self):
        self.assertEqual(tokens_behind("<calc>1</calc>a<b>"), 5)
        self.assertEqual(tokens_behind("<calc>1</calc><verb>2</verb><calc>3</calc>"), 9)

    def test_nothing_nests(self):
        self.assertEqual(tokens_behind("</a></b><c><c><d></c>"), 6)

    def test_marks_are_tokens_like_bytes(self):
        self.assertEqual(tokens_behind(256, "<a b=", 256, ">"), 2)
        self.assertEqual(ask(whole(256), TOKENS), [[0], [1]])
        self.assertEqual(tokens_behind("<calc>", 256, "</calc>"), 3)

    def test_behind_a_fault_those_that_were_whole(self):
        self.assertEqual(ask(feed("a<b>c<1"), TOKENS, FAULT), [[1], [3], [1, 6]])
        self.assertEqual(ask(feed("<b>c&;"), TOKENS, FAULT), [[1], [1], [4, 5]])
        self.assertEqual(ask(feed("<calc>1</calx"), TOKENS, FAULT), [[1], [1], [6, 12]])
        self.assertEqual(ask(feed("<a/>b<c d d>"), TOKENS, FAULT), [[1], [2], [3, 11]])
        self.assertEqual(ask(feed("a<!--b--", 256), TOKENS, FAULT), [[1], [1], [5, 8]])

    def test_the_end_makes_a_run_of_text_whole(self):
        self.assertEqual(ask(feed("<a>b"), TOKENS, END, TOKENS), [[0], [1], [0], [2]])


if __name__ == "__main__":
    unittest.main()
