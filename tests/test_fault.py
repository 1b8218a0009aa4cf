"""Promise 4: fault, and so what each mode takes and what it does not."""

import unittest

from tests.calls import END, FAULT, TOKENS, WAYS, ask, fault_behind, feed, signs, tokens_behind

BLANKS = signs("\t\n\r ")
SMALL = signs("abcdefghijklmnopqrstuvwxyz")
LARGE = signs("ABCDEFGHIJKLMNOPQRSTUVWXYZ")
DIGITS = signs("0123456789")
NAME = SMALL + DIGITS + signs("-")
ALL = list(range(256))
BARE = [byte for byte in ALL if byte not in BLANKS + signs("\"&'<=>`")]

# For each mode the bytes that it takes behind the first of its ways, and the kind of fault of all others.
TAKEN = {
    0: (ALL, None),
    1: (SMALL + LARGE + DIGITS + signs("#"), 4),
    2: (SMALL + LARGE + DIGITS + signs("#"), 4),
    3: (SMALL + LARGE + DIGITS + signs("#"), 4),
    4: (SMALL + LARGE + DIGITS + signs("#"), 4),
    5: (SMALL + signs("/!"), 1),
    6: (NAME + BLANKS + signs("/>"), 1),
    7: (SMALL, 1),
    8: (NAME + signs(">"), 1),
    9: (SMALL + BLANKS + signs("/>"), 1),
    10: (NAME + BLANKS + signs("/>="), 1),
    11: (BARE + signs("\"'&"), 1),
    12: (ALL, None),
    13: (ALL, None),
    14: (BARE + BLANKS + signs("&>"), 1),
    15: (BLANKS + signs("/>"), 1),
    16: (signs(">"), 1),
    17: (signs("-"), 1),
    18: (signs("-"), 1),
    19: (ALL, None),
    20: (ALL, None),
    21: (ALL, None),
    22: (ALL, None),
    23: (ALL, None),
    24: (signs("c"), 6),
}

MARKS = (256, 257, 300, 65534, 65535)


class EachByteInEachMode(unittest.TestCase):
    def test_the_byte_is_taken_or_is_the_fault(self):
        for mode in TAKEN:
            way = WAYS[mode][0]
            taken, kind = TAKEN[mode]
            for byte in ALL:
                expected = [0, 0] if byte in taken else [kind, len(way)]
                self.assertEqual(fault_behind(way, byte), expected, (mode, byte))

    def test_the_same_behind_the_other_ways_to_the_mode(self):
        for mode in TAKEN:
            # What a reference or a raw element's close tag takes hangs on what stands before.
            if mode in (1, 2, 3, 4, 24):
                continue
            taken, kind = TAKEN[mode]
            for way in WAYS[mode][1:]:
                for byte in ALL:
                    expected = [0, 0] if byte in taken else [kind, len(way)]
                    self.assertEqual(fault_behind(way, byte), expected, (way, byte))


class Marks(unittest.TestCase):
    def test_where_a_mark_may_stand(self):
        for mode in (0, 11, 12, 13, 14):
            for way in WAYS[mode]:
                for mark in MARKS:
                    self.assertEqual(fault_behind(way, mark), [0, 0], (way, mark))

    def test_where_a_mark_may_not_stand(self):
        for mode in (1, 2, 3, 4, 5, 6, 7, 8, 9, 10, 15, 16, 17, 18, 19, 20, 21, 23, 24):
            for way in WAYS[mode]:
                for mark in MARKS:
                    self.assertEqual(fault_behind(way, mark), [5, len(way)], (way, mark))

    def test_raw_text_takes_marks_in_calc_and_not_in_verb(self):
        for mark in MARKS:
            self.assertEqual(fault_behind("<calc>", mark, "a", mark, "</calc>"), [0, 0])
            self.assertEqual(fault_behind("<verb>", mark), [5, 6])
            self.assertEqual(fault_behind("<verb>a<b", mark), [5, 9])

    def test_a_mark_is_kind_5_whatever_else_would_be_told(self):
        self.assertEqual(fault_behind("&quot", 256), [5, 5])
        self.assertEqual(fault_behind("<" + "a" * 32, 256), [5, 33])
        self.assertEqual(fault_behind("<a b b", 256), [5, 6])
        self.assertEqual(fault_behind("<calc></calc", 256), [5, 12])

    def test_255_is_no_mark(self):
        for way in ("<!--", "<verb>", "<calc><", "<a b="):
            self.assertEqual(fault_behind(way, 255), [0, 0])
        self.assertEqual(fault_behind("<a b='c'", 255), [1, 8])

    def test_a_mark_behind_equals_is_the_whole_value(self):
        for behind in (" ", "/", ">"):
            self.assertEqual(fault_behind("<a b=", 256, behind), [0, 0])
        for behind in ("x", "&", '"', 256):
            kind = 5 if behind == 256 else 1
            self.assertEqual(fault_behind("<a b=", 256, behind), [kind, 6], behind)
        self.assertEqual(fault_behind("<a b=", 256, " b>"), [3, 8])

    def test_marks_within_values_leave_the_value_unended(self):
        self.assertEqual(fault_behind("<a b=x", 256, "y", 257, ">"), [0, 0])
        self.assertEqual(fault_behind("<a b=&lt;", 256, "&gt;/>"), [0, 0])
        self.assertEqual(fault_behind("<a b='", 256, "\"' c=\"", 257, "'\">"), [0, 0])
        self.assertEqual(tokens_behind("<a b='", 256, "\"' c=\"", 257, "'\">"), 1)


class Kind1(unittest.TestCase):
    def test_where_a_step_leads_to_is_seen_by_the_next(self):
        faults = {
            "<A": 1, "< a": 1, "<a\"": 2, "</ a": 2, "</a >": 3, "</a/>": 3, "</1": 2, "<a 1": 3, "<a -": 3,
            "<a b\"": 4, "<a b =": 5, "<a b= c": 5, "<a b=>": 5, "<a b=`": 5, "<a b==": 5, "<a b=<": 5,
            "<a b=c\"": 6, "<a b=c'": 6, "<a b=c<": 6, "<a b=c=": 6, "<a b=c`": 6, "<a b=\"c\"d": 8, "<a b='c'=": 8,
            "<a/ >": 3, "<a//": 3, "<a b//": 5, "<!a": 2, "<!-a": 3, "<!->": 3, "<!DOCTYPE": 2, "<a/b": 3,
            "<a b=&lt;\"": 9, "<a b=\"&lt;\"'": 11, "<a b='&lt;'\"": 11, "<a b=/ =": 7,
        }
        for text in faults:
            self.assertEqual(fault_behind(text, "x"), [1, faults[text]], text)

    def test_texts_without_a_fault(self):
        for text in ("", "a>b\"c'd=e`f/g", "<a b=c/>", "<a b=/>", "<a b/><c d />", "<a\tb\nc\rd e>", "<a b='' c>",
                     "<a b='<>&lt;\"=`'>", "<a b=\"<>&lt;'=`\">", "<a b=!#$(*+,-./:;?@[]^_{|}~>", "<a-1 b-2=3></a-1>",
                     "<a--></a-->", "</a></b>", "<a b=c >", "<a  b  c  >", "<a/>"):
            self.assertEqual(fault_behind(text), [0, 0], text)

    def test_raw_text_begins_behind_open_tags_of_raw_elements_alone(self):
        for text in ("<calc/>", "<verb />", "<calc b/>", "<calcs>", "<cal>", "<verb1>", "</calc>", "</verb>",
                     "<a calc>"):
            self.assertEqual(fault_behind(text, "<1"), [1, len(text) + 1], text)
        for text in ("<calc>", "<verb >", "<calc b>", "<verb b=c/>", "<calc b='c'>"):
            self.assertEqual(fault_behind(text, "<1"), [0, 0], text)


class Kind2(unittest.TestCase):
    def test_names_of_32_and_33_signs(self):
        for ahead, behind in (("<", ">"), ("<", " "), ("<", "/"), ("</", ">"), ("<a ", "="), ("<a ", ">"),
                              ("<a b ", "/")):
            for name in ("n" * 32, "n" + "0" * 31, "n" + "-" * 31):
                self.assertEqual(fault_behind(ahead, name, behind), [0, 0], (ahead, behind))
                for more in ("n", "0", "-"):
                    self.assertEqual(fault_behind(ahead, name, more), [2, len(ahead) + 32], ahead)

    def test_other_bytes_behind_32_signs_are_kind_1(self):
        for ahead in ("<", "</", "<a "):
            self.assertEqual(fault_behind(ahead, "n" * 32, "N"), [1, len(ahead) + 32])


class Kind3(unittest.TestCase):
    def test_an_attribute_twice(self):
        for first in ("b", "b=c", "b=''", "b=\"c\"", "x b", "b x", "b=", "x=y b='z' w"):
            value = [300] if first == "b=" else []
            for sign in "\t\n\r />=":
                ahead = signs("<a ", first, *value, " b")
                self.assertEqual(fault_behind(*ahead, sign), [3, len(ahead)], (first, sign))

    def test_names_that_only_begin_alike_differ(self):
        self.assertEqual(fault_behind("<a b bb b- b1 bbb=c>"), [0, 0])

    def test_another_byte_behind_the_name_is_kind_1(self):
        self.assertEqual(fault_behind("<a b b\""), [1, 6])

    def test_the_name_may_come_again_in_another_tag(self):
        self.assertEqual(fault_behind("<a b><a b><a b/><a b=c><calc b></calc><verb b>"), [0, 0])

    def test_the_tag_may_be_called_like_its_attribute(self):
        self.assertEqual(fault_behind("<a a>"), [0, 0])


class Kind4(unittest.TestCase):
    WITHIN = (("", "z"), ("<a b=\"", "\" c>"), ("<a b='", "' c>"), ("<a b=", " c>"), ("<a b=x", " c>"))

    def check_reference(self, body):
        for ahead, behind in self.WITHIN:
            self.assertEqual(fault_behind(ahead, "&", body, ";", behind), [0, 0], (ahead, body))
            self.assertEqual(tokens_behind(ahead, "&", body, ";", behind), 1 if ahead else 0, (ahead, body))

    def check_fault_at_the_end(self, body):
        for ahead, behind in self.WITHIN:
            place = len(ahead) + 1 + len(body)
            self.assertEqual(fault_behind(ahead, "&", body, ";", behind), [4, place], (ahead, body))

    def test_the_references_with_names(self):
        for body in ("amp", "lt", "gt", "quot", "apos"):
            self.check_reference(body)

    def test_names_that_are_no_references(self):
        for body in ("", "a", "am", "AMP", "Lt", "LT", "nbsp", "g", "l", "quo", "apo", "ampx", "x41", "65"):
            self.check_fault_at_the_end(body)

    def test_numbers_with_and_without_zeros_before(self):
        for number in range(256):
            for body in (f"#{number}", f"#{number:02}", f"#{number:03}"):
                self.check_reference(body)

    def test_numbers_above_255(self):
        for number in range(256, 1000):
            self.assertEqual(fault_behind(f"&#{number};"), [4, 5])

    def test_hexadecimal_numbers_of_one_and_two_digits_large_and_small(self):
        for number in range(256):
            for body in (f"#x{number:x}", f"#x{number:X}", f"#x{number:02x}", f"#x{number:02X}"):
                self.check_reference(body)
        self.check_reference("#xaF")
        self.check_reference("#xFa")

    def test_what_is_no_number(self):
        for body in ("#", "#x", "#X4", "#X41", "#a", "#1a", "#12f", "#a1", "#xg", "#xG", "#x1g", "#xg1", "#x1G", "#x#1",
                     "##1", "#1#", "#xx1", "1#", "#F", "#z", "#xz", "a#1", "#1x1"):
            self.check_fault_at_the_end(body)

    def test_bodies_of_4_and_5_signs(self):
        for body in ("quot", "apos", "#255", "#xff"):
            for fifth in "a0Z#":
                for ahead, behind in self.WITHIN:
                    place = len(ahead) + 5
                    self.assertEqual(fault_behind(ahead, "&", body, fifth, ";", behind), [4, place], (ahead, body))
        self.assertEqual(fault_behind("&aaaa"), [0, 0])
        self.assertEqual(fault_behind("&aaaaa"), [4, 5])
        self.assertEqual(fault_behind("&#0255;"), [4, 5])
        self.assertEqual(fault_behind("&#x041;"), [4, 5])

    def test_other_bytes_within_a_body(self):
        for byte in signs("&<> -\"'=/.@[`{:"):
            for ahead, behind in self.WITHIN:
                self.assertEqual(fault_behind(ahead, "&a", byte, behind), [4, len(ahead) + 2], (ahead, byte))

    def test_the_body_is_empty_in_the_next_reference(self):
        for ahead, behind in self.WITHIN:
            self.assertEqual(fault_behind(ahead, "&quot;&amp;&#65;&#x41;x&apos;", behind), [0, 0], ahead)
            self.assertEqual(fault_behind(ahead, "&quot;&;"), [4, len(ahead) + 7], ahead)

    def test_a_reference_leads_back_to_where_it_began(self):
        self.assertEqual(ask(feed("&lt;"), END, TOKENS), [[0], [0], [1]])
        self.assertEqual(fault_behind('<a b="&lt;\'>"x'), [1, 13])
        self.assertEqual(fault_behind("<a b='&lt;\">'x"), [1, 13])
        self.assertEqual(fault_behind("<a b=&lt;'"), [1, 9])
        self.assertEqual(fault_behind("<a b=&#34;"), [0, 0])

    def test_no_references_in_comments_and_raw_text(self):
        self.assertEqual(fault_behind("<!--&;&--><calc>&;</calc><verb>&a </verb>"), [0, 0])


class Kind6(unittest.TestCase):
    def test_each_wrong_byte_within_the_close_tag_of_a_raw_element(self):
        for name in ("calc", "verb"):
            for length in range(5):
                ahead = f"<{name}>a</{name[:length]}"
                right = (name + ">")[length]
                for byte in ALL:
                    expected = [0, 0] if byte == ord(right) else [6, len(ahead)]
                    self.assertEqual(fault_behind(ahead, byte), expected, (ahead, byte))

    def test_a_raw_element_is_closed_by_its_own_name_alone(self):
        self.assertEqual(fault_behind("<calc></verb>"), [6, 8])
        self.assertEqual(fault_behind("<verb></calc>"), [6, 8])
        self.assertEqual(fault_behind("<calc></calcs>"), [6, 12])

    def test_less_signs_ahead_of_the_close_tag(self):
        self.assertEqual(fault_behind("<calc><<</calc>x<1"), [1, 17])
        self.assertEqual(fault_behind("<calc>< /calc></calc><1"), [1, 22])
        self.assertEqual(fault_behind("<verb><a></"), [0, 0])
        self.assertEqual(fault_behind("<verb><a></a"), [6, 11])


class NoFault(unittest.TestCase):
    def test_0_and_0_where_there_is_none(self):
        self.assertEqual(ask(FAULT), [[0, 0]])
        self.assertEqual(ask(END, FAULT), [[0], [0, 0]])
        for mode in WAYS:
            for way in WAYS[mode]:
                self.assertEqual(fault_behind(way), [0, 0], way)

    def test_the_fault_stays_as_it_was(self):
        self.assertEqual(ask(feed("a&;"), FAULT, feed("<<"), END, FAULT), [[1], [4, 2], [-2], [-2], [4, 2]])

    def test_the_largest_places(self):
        self.assertEqual(fault_behind("a" * 16382, "<1"), [1, 16383])
        self.assertEqual(ask(feed("a" * 16383, "<"), END, FAULT), [[0], [1], [7, 16384]])


if __name__ == "__main__":
    unittest.main()
