"""Promise 6: token."""

import unittest

from tests.calls import (
    BEGIN, END, FAULT, MOST_SIGNS, TELLING, TOKENS, WAYS, ask, ask_last, feed, listed, signs, token, told_tokens, whole,
)


def tag(place, ended, name, *attributes):
    """An open tag as token tells it; attributes: names and values in turn."""
    return [1, place, ended] + listed(name) + [len(attributes) // 2] + listed(*attributes)


class Refusals(unittest.TestCase):
    NUMBERS = (-1, -2, -3, -2147483648, 2147483647)

    def test_there_is_no_token_in_a_new_reader(self):
        for i in self.NUMBERS + (0, 1):
            self.assertEqual(ask(token(i)), [[-4]], i)

    def test_below_0_and_not_below_the_number_of_tokens(self):
        for i in self.NUMBERS + (3, 4):
            self.assertEqual(ask(whole("<a>b</a>"), TOKENS, token(i)), [[0], [3], [-4]], i)

    def test_the_last_token_is_not_refused(self):
        self.assertEqual(ask(whole("<a>b</a>"), token(0), token(1), token(2), token(3)),
                         [[0], tag(0, 0, "a"), [0, 3, 98], [2, 4, 97], [-4]])

    def test_a_token_that_is_not_whole_yet(self):
        self.assertEqual(ask(feed("ab"), token(0), feed("<"), token(0), token(1)),
                         [[0], [-4], [0], [0, 0, 97, 98], [-4]])
        self.assertEqual(ask(feed("<a b"), token(0), feed(">"), token(0)), [[0], [-4], [0], tag(0, 0, "a", "b", "")])

    def test_behind_begin(self):
        self.assertEqual(ask(whole("a"), token(0), BEGIN, token(0)), [[0], [0, 0, 97], [0], [-4]])

    def test_refused_it_leaves_the_reader_as_it_was(self):
        for mode in WAYS:
            for way in WAYS[mode]:
                asked = ask(feed(way), token(-1), token(9), *TELLING, END, *TELLING)
                self.assertEqual(asked[1:3], [[-4], [-4]], way)
                self.assertEqual(asked[3:], ask(feed(way), *TELLING, END, *TELLING)[1:], way)


class RunsOfText(unittest.TestCase):
    def test_its_signs(self):
        self.assertEqual(told_tokens("a"), [[0, 0, 97]])
        self.assertEqual(told_tokens("a>b\"'=`/\n", 0, 255), [[0, 0] + signs("a>b\"'=`/\n", 0, 255)])

    def test_a_reference_is_its_byte(self):
        self.assertEqual(told_tokens("&amp;&lt;&gt;&quot;&apos;"), [[0, 0] + signs("&<>\"'")])
        self.assertEqual(told_tokens("&#7;&#07;&#007;&#255;&#xA;&#xfF;&#x0;"), [[0, 0, 7, 7, 7, 255, 10, 255, 0]])
        self.assertEqual(told_tokens("&amp;lt;"), [[0, 0] + signs("&lt;")])

    def test_every_number_of_a_reference(self):
        for number in range(256):
            for body in (f"#{number}", f"#{number:03}", f"#x{number:x}", f"#x{number:02X}"):
                self.assertEqual(told_tokens("&", body, ";"), [[0, 0, number]], body)

    def test_marks_are_kept_as_they_are(self):
        self.assertEqual(told_tokens(300, "&#65;", 301, 65535), [[0, 0, 300, 65, 301, 65535]])

    def test_its_place_where_it_begins_with_a_reference(self):
        self.assertEqual(told_tokens("&lt;b"), [[0, 0, 60, 98]])
        self.assertEqual(told_tokens("<a>&lt;b</a>&#65;"),
                         [tag(0, 0, "a"), [0, 3, 60, 98], [2, 8, 97], [0, 12, 65]])

    def test_its_place_behind_each_kind_of_token(self):
        for ahead in ("<a>", "<a b=c/>", "</a>", "<!---->", "<!--a-->", "<calc></calc>", "<verb>1<2</verb>"):
            for text in ("x", "&#120;"):
                self.assertEqual(told_tokens(ahead, text)[-1], [0, len(ahead), 120], ahead)
            self.assertEqual(told_tokens(ahead, 256)[-1], [0, len(ahead), 256], ahead)


class OpenTags(unittest.TestCase):
    def test_ended_and_not_ended(self):
        self.assertEqual(told_tokens("<a>"), [[1, 0, 0, 1, 97, 0]])
        self.assertEqual(told_tokens("<a/>"), [[1, 0, 1, 1, 97, 0]])
        self.assertEqual(told_tokens("<ab-1 ><c />"), [tag(0, 0, "ab-1"), tag(7, 1, "c")])

    def test_ended_and_not_ended_raw_elements(self):
        for name in ("calc", "verb"):
            self.assertEqual(told_tokens(f"<{name}/>a"), [tag(0, 1, name), [0, 7, 97]])
            self.assertEqual(told_tokens(f"<{name} b></{name}>a"),
                             [tag(0, 0, name, "b", ""), [2, 8] + signs(name), [0, 15, 97]])

    def test_attributes_without_a_value(self):
        for text, ended in (("<a b>", 0), ("<a b/>", 1), ("<a b >", 0), ("<a b />", 1), ("<a\tb\n>", 0)):
            self.assertEqual(told_tokens(text), [[1, 0, ended, 1, 97, 1, 1, 98, 0]], text)
        self.assertEqual(told_tokens("<a b c='' d=\"\" e>"), [tag(0, 0, "a", "b", "", "c", "", "d", "", "e", "")])

    def test_values(self):
        for text, value in (("b=c", "c"), ("b='c d'", "c d"), ("b=\"c>d\"", "c>d"), ("b='\"'", "\""), ("b=\"'\"", "'"),
                            ("b=/", "/"), ("b=c/", "c/"), ("b=&lt;", "<"), ("b=x&amp;y", "x&y"),
                            ("b='&apos;&quot;'", "'\""), ("b=\"&quot;&#39;\"", "\"'"), ("b=&#32;", " "),
                            ("b='<a>'", "<a>"), ("b='=`/'", "=`/")):
            self.assertEqual(told_tokens("<a ", text, ">"), [tag(0, 0, "a", "b", value)], text)

    def test_marks_in_values(self):
        self.assertEqual(told_tokens("<a b=", 256, " c=x", 257, "&gt;y d='", 258, "&lt;' e=\"", 259, 260, "\"/>"),
                         [tag(0, 1, "a", "b", [256], "c", ["x", 257, ">y"], "d", [258, "<"], "e", [259, 260])])
        self.assertEqual(told_tokens("<a b=", 256, ">"), [[1, 0, 0, 1, 97, 1, 1, 98, 1, 256]])
        self.assertEqual(told_tokens("<a b=", 256, "/>"), [[1, 0, 1, 1, 97, 1, 1, 98, 1, 256]])

    def test_the_order_of_attributes(self):
        self.assertEqual(told_tokens("<a c=1 a=2 b=3>"), [tag(0, 0, "a", "c", "1", "a", "2", "b", "3")])

    def test_a_bare_value_takes_the_slash(self):
        self.assertEqual(told_tokens("<a b=c/>"), [tag(0, 0, "a", "b", "c/")])
        self.assertEqual(told_tokens("<a b=c />"), [tag(0, 1, "a", "b", "c")])

    def test_each_tag_has_its_own_attributes(self):
        self.assertEqual(told_tokens("<a b=1><a c=''/><a><b>"),
                         [tag(0, 0, "a", "b", "1"), tag(7, 1, "a", "c", ""), tag(16, 0, "a"), tag(19, 0, "b")])

    def test_its_place_is_that_of_its_less_sign(self):
        for ahead in ("x", "&amp;", "<a>", "</a>", "<a/>", "<!--a-->", "<calc></calc>", "<verb>1</verb>"):
            self.assertEqual(told_tokens(ahead, "<b>")[-1], tag(len(ahead), 0, "b"), ahead)


class CloseTags(unittest.TestCase):
    def test_its_name_without_a_count(self):
        self.assertEqual(told_tokens("</a>"), [[2, 0, 97]])
        self.assertEqual(told_tokens("</a-1></calc>"), [[2, 0] + signs("a-1"), [2, 6] + signs("calc")])

    def test_its_place(self):
        self.assertEqual(told_tokens("<a>&lt;</a>"), [tag(0, 0, "a"), [0, 3, 60], [2, 7, 97]])
        self.assertEqual(told_tokens("</a><!----></b>"), [[2, 0, 97], [3, 4], [2, 11, 98]])


class Comments(unittest.TestCase):
    def test_an_empty_comment(self):
        self.assertEqual(told_tokens("<!---->"), [[3, 0]])

    def test_its_signs_and_its_place(self):
        for text, inside in (("<!---->", ""), ("<!--a-->", "a"), ("<!----->", "-"), ("<!------>", "--"),
                             ("<!-->-->", ">"), ("<!--->-->", "->"), ("<!--a-b--c---d->-->", "a-b--c---d->"),
                             ("<!--&lt;<a>-->", "&lt;<a>"), ("<!---- -->", "-- "), ("<!----a-->", "--a")):
            self.assertEqual(told_tokens("x", text, "y"),
                             [[0, 0, 120], [3, 1] + signs(inside), [0, 1 + len(text), 121]], text)


class RawText(unittest.TestCase):
    def test_raw_text_and_the_close_tag_behind_it(self):
        for name in ("calc", "verb"):
            for inside in ("1", "<", "<<", "<<<", "a<b", "<a>&lt;", "a<", "< /calc>", "<!-- -->", "1<2<"):
                expected = [tag(0, 0, name), [4, 6] + signs(inside), [2, 6 + len(inside)] + signs(name)]
                self.assertEqual(told_tokens(f"<{name}>{inside}</{name}>"), expected, inside)

    def test_empty_raw_text_is_no_token(self):
        for name in ("calc", "verb"):
            self.assertEqual(told_tokens(f"a<{name}></{name}>"), [[0, 0, 97], tag(1, 0, name), [2, 7] + signs(name)])

    def test_marks_in_calc(self):
        self.assertEqual(told_tokens("<calc>", 256, "<1", 257, "</calc>")[1:],
                         [[4, 6, 256, 60, 49, 257], [2, 10] + signs("calc")])

    def test_what_stands_behind_it_has_its_place(self):
        self.assertEqual([told[:2] for told in told_tokens("<calc a>", 256, "</calc>b<verb></verb><c>")],
                         [[1, 0], [4, 8], [2, 9], [0, 16], [1, 17], [2, 23], [1, 30]])


class Behind(unittest.TestCase):
    def test_the_documents_examples(self):
        self.assertEqual(ask(whole("a&lt;<b c='x\"' d/>"), TOKENS, token(0), token(1), token(2)),
                         [[0], [2], [0, 0, 97, 60], [1, 5, 1, 1, 98, 2, 1, 99, 2, 120, 34, 1, 100, 0], [-4]])
        self.assertEqual(ask(whole("a<b c="), FAULT, TOKENS, token(0), token(1)), [[1], [7, 6], [1], [0, 0, 97], [-4]])
        self.assertEqual(ask(whole("<calc>1<2</calc "), token(0), token(1)), [[1], tag(0, 0, "calc"), [-4]])

    def test_a_fault_keeps_the_tokens(self):
        self.assertEqual(ask(feed("a<b c=d>e<!--f--></b><1"), token(0), token(1), token(2), token(3), token(4)),
                         [[1], [0, 0, 97], tag(1, 0, "b", "c", "d"), [0, 8, 101], [3, 9, 102], [2, 17, 98]])

    def test_tokens_stay_as_they_were_while_reading_goes_on(self):
        pieces = ["<calc a=b>", "1", "</calc>", "<a c='d'>", "x", "<b/>", "y", "<!--z-->"]
        feeds = [feed(piece) for piece in pieces]
        at_last = [token(i) for i in range(8)]
        expected = ask(*feeds, *at_last)[len(feeds):]
        for count in range(1, len(pieces) + 1):
            whole_then = ask_last(*feeds[:count], TOKENS)[0]
            told = ask(*feeds[:count], *at_last[:whole_then])[count:]
            self.assertEqual(told, expected[:whole_then], count)

    def test_pieces_make_the_same_tokens(self):
        text = signs("x&lt;<a b='c' d=", 256, ">", 257, "<calc>1<</calc><!--a--b--></a>")
        expected = told_tokens(*text)
        calls = [token(i) for i in range(len(expected))]
        for cut in range(len(text) + 1):
            self.assertEqual(ask(feed(*text[:cut]), feed(*text[cut:]), END, *calls)[3:], expected, cut)

    def test_the_same_token_asked_twice(self):
        line = whole("a<b c=d>")
        self.assertEqual(ask(line, token(1), token(0), token(1), token(1)),
                         [[0], tag(1, 0, "b", "c", "d"), [0, 0, 97], tag(1, 0, "b", "c", "d"), tag(1, 0, "b", "c", "d")])


class Longest(unittest.TestCase):
    def test_the_longest_contents(self):
        self.assertEqual(ask_last(whole("a" * MOST_SIGNS), token(0)), [0, 0] + [97] * MOST_SIGNS)
        self.assertEqual(ask_last(whole("<!--", "-" * (MOST_SIGNS - 5), ">"), token(0)), [3, 0] + [45] * (MOST_SIGNS - 7))
        self.assertEqual(ask(whole("<verb>", "<" * (MOST_SIGNS - 12), "/verb>"), token(1), token(2)),
                         [[0], [4, 6] + [60] * (MOST_SIGNS - 13), [2, MOST_SIGNS - 7] + signs("verb")])
        value = [65535] * (MOST_SIGNS - 8)
        self.assertEqual(ask_last(whole("<a b='", *value, "'>"), token(0)), tag(0, 0, "a", "b", value))

    def test_the_longest_names(self):
        name = "n" * 32
        other = "o" + "-" * 31
        self.assertEqual(told_tokens(f"<{name} {name} {other}=x></{name}>"),
                         [tag(0, 0, name, name, "", other, "x"), [2, 102] + signs(name)])

    def test_the_most_attributes(self):
        names = [f"a{k}" for k in range(2500)]
        attributes = [part for name in names for part in (name, "")]
        self.assertEqual(ask_last(whole("<a ", " ".join(names), ">"), token(0)), tag(0, 0, "a", *attributes))

    def test_the_most_tokens_and_the_largest_places(self):
        # Each run of text is one sign and each tag three.
        line = whole("a<b>" * (MOST_SIGNS // 4))
        self.assertEqual(ask(line, TOKENS, token(8190), token(8191), token(8192)),
                         [[0], [8192], [0, 16380, 97], tag(16381, 0, "b"), [-4]])
        self.assertEqual(ask_last(whole("<a>" * 5461, "x"), token(5461)), [0, 16383, 120])


if __name__ == "__main__":
    unittest.main()
