"""The interface: one list of calls in, one list of answers back."""

import unittest

from markreader.reader import answers
from tests.calls import BEGIN, END, FAULT, MARKS, MOST_SIGNS, STATE, TELLING, TOKENS, WRITTEN, ask, feed, token, whole


class Interface(unittest.TestCase):
    def test_the_form_of_the_answers(self):
        self.assertEqual(answers([0]), [1, 0])
        self.assertEqual(answers([1, 0]), [1, 0])
        self.assertEqual(answers([1, 1, 97]), [1, 0])
        self.assertEqual(answers([1, 2, 60, 60]), [1, 1])
        self.assertEqual(answers([1, 1, -1]), [1, -1])
        self.assertEqual(answers([2]), [1, 0])
        self.assertEqual(answers([2, 2]), [1, 0, 1, -2])
        self.assertEqual(answers([3]), [2, 0, 0])
        self.assertEqual(answers([4]), [1, 0])
        self.assertEqual(answers([5, 0]), [1, -4])
        self.assertEqual(answers([6]), [6, 0, 0, 0, 0, 0, 0])
        self.assertEqual(answers([7]), [1, 0])
        self.assertEqual(answers([8]), [1, 0])
        self.assertEqual(answers([9, 0]), [1, 0])
        self.assertEqual(answers([9, 2, 97, 98, 5, 0, 8]), [1, 0, 4, 0, 0, 97, 98, 3, 2, 97, 98])
        self.assertEqual(answers([9, 7, 60, 33, 45, 45, 45, 45, 62, 5, 0]), [1, 0, 2, 3, 0])
        self.assertEqual(answers([1, 2, 256, 60, 7, 6]), [1, 0, 3, 1, 256, 0, 6, 5, 2, 0, 0, 0, 0])
        self.assertEqual(answers([9, 3, 97, 60, 49, 3, 4]), [1, 1, 2, 1, 2, 1, 1])

    def test_several_calls_in_one_list(self):
        line = [1, 3, 60, 97, 62, 4, 1, 2, 98, 60, 4, 2, 3, 0, 3, 4, 9, 1, 60, 3]
        self.assertEqual(answers(line), [1, 0, 1, 1, 1, 0, 1, 2, 1, 1, 2, 7, 5, 1, 0, 2, 0, 0, 1, 0, 1, 1, 2, 7, 1])

    def test_signs_are_not_taken_for_calls(self):
        self.assertEqual(answers([1, 4, 0, 2, 3, 9, 4, 2, 4]), [1, 0, 1, 0, 1, 0, 1, 1])
        self.assertEqual(answers([1, 4, 5, 6, 7, 8, 2, 5, 0]), [1, 0, 1, 0, 6, 0, 0, 5, 6, 7, 8])

    def test_the_number_of_a_token_is_not_taken_for_a_call(self):
        self.assertEqual(answers([5, 0, 5, 5, 5, 9, 5, 1, 4]), [1, -4, 1, -4, 1, -4, 1, -4, 1, 0])

    def test_100_calls(self):
        self.assertEqual(answers([4] * 100), [1, 0] * 100)
        self.assertEqual(answers([3] * 100), [2, 0, 0] * 100)
        self.assertEqual(ask(*[feed("<a>"), TOKENS] * 50), [answer for k in range(1, 51) for answer in ([0], [k])])
        self.assertEqual(ask(*[whole("a<b>c"), FAULT] * 50), [[0], [0, 0]] * 50)
        self.assertEqual(answers([5, 3] * 100), [1, -4] * 100)
        self.assertEqual(answers([6] * 100), [6, 0, 0, 0, 0, 0, 0] * 100)
        self.assertEqual(answers([7] * 100), [1, 0] * 100)
        self.assertEqual(answers([8] * 100), [1, 0] * 100)
        self.assertEqual(ask(feed(256, "<"), *[token(0), STATE, MARKS] * 33),
                         [[0]] + [[0, 0, 256], [5, 2, 0, 0, 0, 0], [1, 256, 0]] * 33)
        text = [97] * MOST_SIGNS
        self.assertEqual(ask(whole(*text), *[token(0), WRITTEN, TOKENS] * 33),
                         [[0]] + [[0, 0] + text, [MOST_SIGNS] + text, [1]] * 33)

    def test_30000_numbers(self):
        line = feed("a" * 14990) + END + BEGIN + feed("<a>" * 5000)
        self.assertEqual(ask(line, TOKENS), [[0], [0], [0], [0], [5000]])

    def test_the_list_handed_in_is_as_it_was(self):
        for line in (feed("a&lt;<b c=d>") + END + TOKENS, whole("<calc>", 256, "</calc>") + FAULT, feed(-1),
                     feed("<<") + END, whole("a<b c='", 256, "'>") + sum(TELLING, []),
                     feed("<a b=&l") + sum(TELLING, [])):
            before = list(line)
            answers(line)
            self.assertEqual(line, before)

    def test_the_same_list_asked_twice_answers_the_same(self):
        for line in (feed("a<b c") + TOKENS + FAULT, whole("a") + END + TOKENS, feed("<1") + FAULT,
                     BEGIN + feed("a" * 16000), whole("&lt;<b c='\"", 256, "'>") + sum(TELLING, [])):
            self.assertEqual(answers(line), answers(line))

    def test_each_list_is_for_a_new_reader(self):
        answers(feed("<1"))
        answers(feed("a") + END)
        answers(feed("a", 256, "<b c=d>") + sum(TELLING, []))
        self.assertEqual(answers(TOKENS + FAULT + feed("a")), [1, 0, 2, 0, 0, 1, 0])
        self.assertEqual(ask(STATE, MARKS, WRITTEN, token(0)), [[0, 0, 0, 0, 0, 0], [0], [0], [-4]])

    def test_what_is_given_back_is_the_asker_s_own(self):
        line = feed("a<b>") + TOKENS
        answers(line).clear()
        self.assertEqual(answers(line), [1, 0, 1, 2])

    def test_the_answers_are_whole_numbers(self):
        for line in (BEGIN + feed("<") + END + FAULT + TOKENS + whole("a") + feed("a") + whole(-1) + END,
                     whole("a<b c=", 256, " d/><calc>1</calc><!----></b>") + sum(TELLING, []),
                     feed("<b c=", 256, " d=&am") + sum(TELLING, [])):
            given = answers(line)
            self.assertIs(type(given), list)
            self.assertEqual({type(number) for number in given}, {int})


if __name__ == "__main__":
    unittest.main()
