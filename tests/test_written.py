"""Promise 9: written, and the one form."""

import unittest

from tests.calls import (
    BEGIN, END, FAULT, MOST_SIGNS, WRITTEN, ask, ask_last, feed, signs, told_tokens, whole, written_behind,
)


class OneForm(unittest.TestCase):
    def check_forms(self, forms):
        """forms: texts, and behind each what it is written as."""
        for text, form in forms:
            self.assertEqual(written_behind(text), signs(form), text)

    def test_nothing(self):
        self.assertEqual(ask(WRITTEN), [[0]])
        self.assertEqual(ask(whole(), WRITTEN), [[0], [0]])

    def test_the_number_of_signs_stands_ahead(self):
        self.assertEqual(ask(whole("a"), WRITTEN), [[0], [1, 97]])
        self.assertEqual(ask(whole("&amp;"), WRITTEN), [[0], [5, 38, 97, 109, 112, 59]])

    def test_the_documents_example(self):
        form = signs("a&lt;<b c=\"x&quot;\" d=\"\"/>")
        self.assertEqual(ask(whole("a&lt;<b c='x\"' d/>"), WRITTEN), [[0], [len(form)] + form])

    def test_runs_of_text(self):
        self.check_forms((
            ("a>b", "a>b"), ("&amp;", "&amp;"), ("&lt;", "&lt;"), ("&gt;", ">"), ("&quot;&apos;", "\"'"), ("\"'", "\"'"),
            ("&#38;&#x3c;&#60;&#x26;", "&amp;&lt;&lt;&amp;"), ("&#65;&#x42;", "AB"), ("&amp;lt;", "&amp;lt;"),
        ))
        for byte in range(256):
            expected = {38: "&amp;", 60: "&lt;"}.get(byte, byte)
            self.assertEqual(written_behind(f"&#{byte};"), signs(expected), byte)

    def test_open_tags(self):
        self.check_forms((
            ("<a>", "<a>"), ("<a/>", "<a/>"), ("<a >", "<a>"), ("<a\n\t/>", "<a/>"), ("<a-1 b-2=3>", "<a-1 b-2=\"3\">"),
            ("<a b>", "<a b=\"\">"), ("<a b/>", "<a b=\"\"/>"), ("<a  b  c  >", "<a b=\"\" c=\"\">"),
            ("<a b=''>", "<a b=\"\">"), ("<a b=\"\"/>", "<a b=\"\"/>"), ("<a b=c>", "<a b=\"c\">"),
            ("<a b='c'>", "<a b=\"c\">"), ("<a b=\"c\">", "<a b=\"c\">"), ("<a b=c/>", "<a b=\"c/\">"),
            ("<a z=1\ty=2\ra=3>", "<a z=\"1\" y=\"2\" a=\"3\">"), ("<calc/>", "<calc/>"),
        ))

    def test_references_and_quotes_in_values(self):
        for quoted in ("'%s'", "\"%s\"", "%s"):
            for value, form in (("&amp;", "&amp;"), ("&lt;", "<"), ("&gt;", ">"), ("&quot;", "&quot;"), ("&apos;", "'"),
                                ("&#34;&#x27;", "&quot;'"), ("x&#38;y", "x&amp;y"), ("&amp;quot;", "&amp;quot;")):
                self.assertEqual(written_behind("<a b=", quoted % value, " >"), signs("<a b=\"", form, "\">"), value)
        self.check_forms((
            ("<a b='\"'>", "<a b=\"&quot;\">"), ("<a b='\"\"' c=\"'\">", "<a b=\"&quot;&quot;\" c=\"'\">"),
            ("<a b='<>'>", "<a b=\"<>\">"), ("<a b=\"`=\n\">", "<a b=\"`=\n\">"),
        ))
        for byte in range(256):
            expected = {38: "&amp;", 34: "&quot;"}.get(byte, byte)
            self.assertEqual(written_behind(f"<a b=&#{byte};>"), signs("<a b=\"", expected, "\">"), byte)

    def test_close_tags(self):
        self.check_forms((("</a>", "</a>"), ("</a-1></calc>", "</a-1></calc>")))

    def test_comments(self):
        same = ("<!---->", "<!--a-->", "<!----->", "<!------>", "<!-->-->", "<!--->-->", "<!--a--b-c->-->",
                "<!--&lt;&\"<a>'-->")
        self.check_forms([(text, text) for text in same])

    def test_raw_text(self):
        for name in ("calc", "verb"):
            for inside in ("", "1", "<", "<<", "a<b", "&lt;&\"<a b='c'>", "<!--"):
                text = f"<{name}>{inside}</{name}>"
                self.check_forms([(text, text)])
        self.check_forms((("<calc b=c\n>&</calc>", "<calc b=\"c\">&</calc>"), ("<verb />&lt;", "<verb/>&lt;")))

    def test_marks_stand_for_themselves(self):
        self.assertEqual(written_behind(256, "&lt;", 65535), signs(256, "&lt;", 65535))
        self.assertEqual(written_behind("<a b=", 256, " c=x", 257, " d='", 258, "' e=\"\"", "/>"),
                         signs("<a b=\"", 256, "\" c=\"x", 257, "\" d=\"", 258, "\" e=\"\"/>"))
        self.assertEqual(written_behind("<calc>", 294, 316, "</calc>"), signs("<calc>", 294, 316, "</calc>"))

    def test_marks_that_end_like_a_byte_are_no_byte(self):
        # 256 more than " and & and <
        for mark in (290, 294, 316):
            self.assertEqual(written_behind(mark, "<a b='", mark, "'>"), signs(mark, "<a b=\"", mark, "\">"))

    def test_tokens_one_behind_the_other(self):
        self.check_forms((
            ("x<a  b>y&gt;<!--z--></a><c/>", "x<a b=\"\">y><!--z--></a><c/>"),
            ("<a>b</a>c<calc>1<2</calc>d<verb></verb>", "<a>b</a>c<calc>1<2</calc>d<verb></verb>"),
            ("</b><a><a>", "</b><a><a>"),
        ))


class Behind(unittest.TestCase):
    def test_only_what_is_whole_is_written(self):
        self.assertEqual(ask(feed("ab"), WRITTEN, feed("<"), WRITTEN), [[0], [0], [0], [2, 97, 98]])
        self.assertEqual(ask(feed("ab"), WRITTEN, END, WRITTEN), [[0], [0], [0], [2, 97, 98]])
        self.assertEqual(ask(feed("<calc>1<"), WRITTEN), [[0], [6] + signs("<calc>")])

    def test_what_stands_in_the_midst_of_a_token(self):
        for text, form in (("x&", ""), ("x<", "x"), ("x<a", "x"), ("x</a", "x"), ("<a b='c' d", ""), ("<a>x", "<a>"),
                           ("<a/", ""), ("x<!--y--", "x"), ("<calc>1", "<calc>"), ("<calc b>1</calc", "<calc b=\"\">")):
            given = ask_last(feed(text), WRITTEN)
            self.assertEqual(given, [len(form)] + signs(form), text)

    def test_a_fault_keeps_what_was_whole(self):
        self.assertEqual(written_behind("a<b c='d'>e<1"), signs("a<b c=\"d\">e"))
        self.assertEqual(written_behind("<a b=c b>"), [])
        self.assertEqual(written_behind("&#256;"), [])
        self.assertEqual(written_behind("<calc>1<2</calc "), signs("<calc>"))
        self.assertEqual(written_behind("a<b c="), signs("a"))

    def test_begin_and_whole_forget_it(self):
        self.assertEqual(ask(whole("a"), BEGIN, WRITTEN), [[0], [0], [0]])
        self.assertEqual(ask(whole("a"), whole("b"), WRITTEN), [[0], [0], [1, 98]])

    def test_asked_twice_it_is_the_same(self):
        form = signs("<a b=\"&quot;\">&lt;")
        self.assertEqual(ask(whole("<a b='\"'>&lt;"), WRITTEN, WRITTEN, FAULT),
                         [[0], [len(form)] + form, [len(form)] + form, [0, 0]])

    def test_what_is_written_is_read_as_the_same_tokens(self):
        for text in (signs("a&lt;<b c='x\"' d/>&gt;"), signs("<a b=&amp;", 300, " c='&#34;", 301, "' d=", 302, ">z"),
                     signs("<!-- -- ---><calc a=b>1<", 61, 303, "</calc></a>&#0;"), signs("<verb/><verb>&amp;</verb>")):
            form = written_behind(*text)
            self.assertEqual(written_behind(*form), form)
            # Places play no part.
            self.assertEqual([[told[0]] + told[2:] for told in told_tokens(*form)],
                             [[told[0]] + told[2:] for told in told_tokens(*text)])


class Longest(unittest.TestCase):
    def test_six_numbers_for_a_sign_read(self):
        quotes = MOST_SIGNS - len("<a b=''>")
        form = signs("<a b=\"", "&quot;" * quotes, "\">")
        self.assertEqual(ask_last(whole("<a b='", "\"" * quotes, "'>"), WRITTEN), [len(form)] + form)
        self.assertEqual(ask_last(feed("<a b='", "\"" * quotes), feed("'>"), WRITTEN), [len(form)] + form)

    def test_the_longest_texts(self):
        self.assertEqual(written_behind("a" * MOST_SIGNS), [97] * MOST_SIGNS)
        self.assertEqual(written_behind("&lt;" * (MOST_SIGNS // 4)), signs("&lt;" * (MOST_SIGNS // 4)))
        self.assertEqual(written_behind(*[65535] * MOST_SIGNS), [65535] * MOST_SIGNS)
        self.assertEqual(written_behind("a<b>" * (MOST_SIGNS // 4)), signs("a<b>" * (MOST_SIGNS // 4)))
        comment = "<!--" + "-" * (MOST_SIGNS - 5) + ">"
        self.assertEqual(written_behind(comment), signs(comment))
        raw = "<verb>" + "&<" * 8185 + "x</verb>"
        self.assertEqual([len(raw), written_behind(raw)], [MOST_SIGNS, signs(raw)])

    def test_the_most_attributes(self):
        names = [f"a{k}" for k in range(2500)]
        form = signs("<a", *[f" {name}=\"\"" for name in names], ">")
        self.assertEqual(written_behind("<a ", " ".join(names), ">"), form)

    def test_the_longest_answer_99_times(self):
        quotes = MOST_SIGNS - len("<a b=''>")
        length = 6 * quotes + len("<a b=\"\">")
        asked = ask(whole("<a b='", "\"" * quotes, "'>"), *[WRITTEN] * 99)
        self.assertEqual(len(asked), 100)
        self.assertEqual([[len(given), given[0]] for given in asked[1:]], [[length + 1, length]] * 99)


if __name__ == "__main__":
    unittest.main()
