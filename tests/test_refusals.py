"""A refusal is its number alone, and the reader is as it was; what tells changes nothing either."""

import unittest

from tests.calls import (
    BEGIN, END, MARKS, MOST_SIGNS, STATE, TELLING, TOKENS, WAYS, WRITTEN, ask, feed, signs, token, whole,
)

TOO_MANY = "a" * (MOST_SIGNS + 1)

# Calls that are refused whatever the mode is, and their refusals.
ALWAYS_REFUSED = (
    (token(-1), -4), (token(20), -4), (whole(-1), -1), (whole("a<b>", 65536), -1), (whole(TOO_MANY), -3),
    (whole(TOO_MANY, -1), -1),
)
REFUSED_WHILE_READING = ((feed(-1), -1), (feed("a<b>", 65536), -1), (feed(TOO_MANY), -3), (feed(TOO_MANY, -1), -1))
REFUSED_BEHIND_THE_END = ((feed(), -2), (feed("a"), -2), (feed(-1), -2), (feed(TOO_MANY), -2), (END, -2))

NO_LONGER_READING = (
    [END], [feed("x<a b=", 256, ">y"), END], [whole("x<calc>", 256, "</calc>")],
    [feed("x<a b=", 256, " b>")], [feed("&am"), END], [whole("<calc>1</cal ")], [feed("<a>", 300, "<!--", 301)],
)


class Refusals(unittest.TestCase):
    def check_refused(self, ahead, refused, behind):
        """The refused calls answer their refusals, and the calls behind them as if those had not come."""
        without = ask(*ahead, *behind)
        for call, number in refused:
            asked = ask(*ahead, call, *behind)
            self.assertEqual(asked.pop(len(ahead)), [number], (ahead, call[:3]))
            self.assertEqual(asked, without, (ahead, call[:3]))

    def test_in_each_mode_that_reads(self):
        going_on = TELLING + [feed("a"), STATE, END] + TELLING
        for mode in WAYS:
            for way in WAYS[mode]:
                self.check_refused([feed(way)], ALWAYS_REFUSED + REFUSED_WHILE_READING, going_on)

    def test_with_marks_tokens_and_attributes(self):
        text = signs(256, "<a b=c>&lt;<d e='", 257, "' f=", 258, " g=\"h&am")
        going_on = TELLING + [feed("p;\"/>"), END] + TELLING
        for cut in range(len(text) + 1):
            self.check_refused([feed(*text[:cut])], ALWAYS_REFUSED + REFUSED_WHILE_READING, going_on)

    def test_behind_the_end_and_behind_a_fault(self):
        for ahead in NO_LONGER_READING:
            self.check_refused(ahead, ALWAYS_REFUSED + REFUSED_BEHIND_THE_END, TELLING + [BEGIN] + TELLING)


class Telling(unittest.TestCase):
    TEXT = signs(256, "<a b=c d>&lt;<calc>1<", 50, 257, "</calc><!--a--></a>x")

    def test_asking_in_the_midst_changes_nothing(self):
        at_once = ask(feed(*self.TEXT), END, *TELLING)[2:]
        for cut in range(len(self.TEXT) + 1):
            ahead = [feed(*self.TEXT[:cut])] + TELLING
            self.assertEqual(ask(*ahead, feed(*self.TEXT[cut:]), END, *TELLING)[len(ahead) + 2:], at_once, cut)

    def test_asking_twice_tells_the_same(self):
        for cut in range(len(self.TEXT) + 1):
            asked = ask(feed(*self.TEXT[:cut]), *TELLING, *TELLING)[1:]
            self.assertEqual(asked[:len(TELLING)], asked[len(TELLING):], cut)

    def test_what_tells_is_not_refused_behind_the_end_and_behind_a_fault(self):
        self.assertEqual(ask(whole("a", 256), STATE, MARKS, WRITTEN, TOKENS, token(0)),
                         [[0], [25, 2, 0, 0, 0, 0], [1, 256, 0], [2, 97, 256], [1], [0, 0, 97, 256]])
        self.assertEqual(ask(whole("a", 256, "<1"), STATE, MARKS, WRITTEN, TOKENS, token(0)),
                         [[1], [26, 3, 0, 0, 0, 0], [1, 256, 0], [2, 97, 256], [1], [0, 0, 97, 256]])


if __name__ == "__main__":
    unittest.main()
