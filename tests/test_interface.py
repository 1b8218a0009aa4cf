"""The interface: one list of calls in, one list of answers back."""

import unittest

from markreader.reader import answers
from tests.calls import BEGIN, END, FAULT, TOKENS, ask, feed, whole


class Interface(unittest.TestCase):
    def test_the_form_of_the_answers(self):
        self.assertEqual(answers([0]), [1, 0])
        self.assertEqual(answers([1, 0]), [1, 0])
        self.assertEqual(answers([1, 1, 97]), [1, 0])
        self.assertEqual(answers([1, 2, 60, 60]), [1, 1])
        self.assertEqual(answers([1, 1, -1]), [1, -1])
        self.assertEqual(answers([2]), [1, 0])
        self.assertEqual(answers([2, 2]), [1, 0, 1, -2])
        self.assertEqual(answers([3]), [2, 0, 0])
        self.assertEqual(answers([4]), [1, 0])
        self.assertEqual(answers([9, 0]), [1, 0])
        self.assertEqual(answers([9, 3, 97, 60, 49, 3, 4]), [1, 1, 2, 1, 2, 1, 1])

    def test_several_calls_in_one_list(self):
        line = [1, 3, 60, 97, 62, 4, 1, 2, 98, 60, 4, 2, 3, 0, 3, 4, 9, 1, 60, 3]
        self.assertEqual(answers(line), [1, 0, 1, 1, 1, 0, 1, 2, 1, 1, 2, 7, 5, 1, 0, 2, 0, 0, 1, 0, 1, 1, 2, 7, 1])

    def test_signs_are_not_taken_for_calls(self):
        self.assertEqual(answers([1, 4, 0, 2, 3, 9, 4, 2, 4]), [1, 0, 1, 0, 1, 0, 1, 1])

    def test_100_calls(self):
        self.assertEqual(answers([4] * 100), [1, 0] * 100)
        self.assertEqual(answers([3] * 100), [2, 0, 0] * 100)
        self.assertEqual(ask(*[feed("<a>"), TOKENS] * 50), [answer for k in range(1, 51) for answer in ([0], [k])])
        self.assertEqual(ask(*[whole("a<b>c"), FAULT] * 50), [[0], [0, 0]] * 50)

    def test_30000_numbers(self):
        line = feed("a" * 14990) + END + BEGIN + feed("<a>" * 5000)
        self.assertEqual(ask(line, TOKENS), [[0], [0], [0], [0], [5000]])

    def test_the_list_handed_in_is_as_it_was(self):
        for line in (feed("a&lt;<b c=d>") + END + TOKENS, whole("<calc>", 256, "</calc>") + FAULT, feed(-1),
                     feed("<<") + END):
            before = list(line)
            answers(line)
            self.assertEqual(line, before)

    def test_the_same_list_asked_twice_answers_the_same(self):
        for line in (feed("a<b c") + TOKENS + FAULT, whole("a") + END + TOKENS, feed("<1") + FAULT,
                     BEGIN + feed("a" * 16000)):
            self.assertEqual(answers(line), answers(line))

    def test_each_list_is_for_a_new_reader(self):
        answers(feed("<1"))
        answers(feed("a") + END)
        self.assertEqual(answers(TOKENS + FAULT + feed("a")), [1, 0, 2, 0, 0, 1, 0])

    def test_what_is_given_back_is_the_asker_s_own(self):
        line = feed("a<b>") + TOKENS
        answers(line).clear()
        self.assertEqual(answers(line), [1, 0, 1, 2])

    def test_the_answers_are_whole_numbers(self):
        line = BEGIN + feed("<") + END + FAULT + TOKENS + whole("a") + feed("a") + whole(-1) + END
        given = answers(line)
        self.assertIs(type(given), list)
        self.assertEqual({type(number) for number in given}, {int})


if __name__ == "__main__":
    unittest.main()
