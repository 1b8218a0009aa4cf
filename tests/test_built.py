"""Texts put together from tokens that are known, in many spellings: what is told is what was put in."""

import random
import unittest

from tests.calls import END, FAULT, MARKS, STATE, TOKENS, WRITTEN, ask, feed, listed, signs, token, whole

NAMES = ["a", "b", "c-1", "calcs", "ver", "n" * 32]
NAMED = {34: "quot", 38: "amp", 39: "apos", 60: "lt", 62: "gt"}
NOT_BARE = signs("\t\n\r \"&'<=>`")


class Builder:
    """Collects a text, and what is to be told of it."""

    def __init__(self, seed):
        self.chance = random.Random(seed)
        self.text = []
        self.tokens = []
        self.form = []
        self.marks = []

    def sign(self, bytes_alone):
        kinds = [self.chance.randrange(256), ord(self.chance.choice("az09<>&\"'-/=! "))]
        if not bytes_alone:
            kinds.append(self.chance.randrange(256, 65536))
        return self.chance.choice(kinds)

    def some_signs(self, bytes_alone=False):
        return [self.sign(bytes_alone) for k in range(self.chance.randrange(1, 6))]

    def reference(self, byte):
        bodies = [f"#{byte}", f"#{byte:03}", f"#x{byte:x}", f"#x{byte:02X}"]
        if byte in NAMED:
            bodies.append(NAMED[byte])
        return signs("&", self.chance.choice(bodies), ";")

    def spell(self, content, not_plain, spot):
        """The content as text: bytes that cannot stand plain, and some others, are references."""
        for sign in content:
            if sign >= 256:
                self.marks.extend([sign, spot])
                self.text.append(sign)
            elif sign in not_plain or self.chance.random() < 0.2:
                self.text.extend(self.reference(sign))
            else:
                self.text.append(sign)

    def spell_value(self, value):
        """Gives back whether a / straight behind would not belong to the value."""
        way = self.chance.randrange(3)
        if way == 0:
            self.text.append(34)
            self.spell(value, [34, 38], 1)
            self.text.append(34)
            return True
        if way == 1 or not value or (value[0] >= 256 and len(value) > 1):
            self.text.append(39)
            self.spell(value, [39, 38], 2)
            self.text.append(39)
            return True
        alone = value[0] >= 256
        self.spell(value, NOT_BARE, 4 if alone else 3)
        return alone

    def written_value(self, value):
        spelled = {34: "&quot;", 38: "&amp;"}
        return signs("\"", *[spelled.get(sign, sign) for sign in value], "\"")

    def add_text(self):
        content = self.some_signs()
        self.tokens.append([0, len(self.text)] + content)
        self.spell(content, [38, 60], 0)
        spelled = {38: "&amp;", 60: "&lt;"}
        self.form.extend(signs(*[spelled.get(sign, sign) for sign in content]))

    def add_attribute(self, name):
        """Gives back the value, and whether a / straight behind would not belong to it."""
        self.text.extend(signs(" " * self.chance.randrange(1, 3), name))
        self.form.extend(signs(" ", name, "="))
        if self.chance.random() < 0.3:
            self.form.extend(self.written_value([]))
            return [], True
        value = self.some_signs() if self.chance.random() < 0.8 else []
        self.text.append(61)
        slash = self.spell_value(value)
        self.form.extend(self.written_value(value))
        return value, slash

    def add_open_tag(self, name, ended):
        place = len(self.text)
        self.text.extend(signs("<", name))
        self.form.extend(signs("<", name))
        names = self.chance.sample(NAMES, self.chance.randrange(4))
        parts = []
        slash = True
        for attribute in names:
            value, slash = self.add_attribute(attribute)
            parts.extend(listed(attribute, value))
        if not slash or self.chance.random() < 0.3:
            self.text.append(self.chance.choice(signs("\t\n\r ")))
        self.text.extend(signs("/>" if ended else ">"))
        self.form.extend(signs("/>" if ended else ">"))
        self.tokens.append([1, place, 1 if ended else 0] + listed(name) + [len(names)] + parts)

    def add_close_tag(self, name):
        self.tokens.append([2, len(self.text)] + signs(name))
        self.text.extend(signs("</", name, ">"))
        self.form.extend(signs("</", name, ">"))

    def add_comment(self):
        inside = self.chance.choice(["", "-", "--", "a", ">", "->", "a--b", "&lt;<a>", "---", "a-"])
        self.tokens.append([3, len(self.text)] + signs(inside))
        self.text.extend(signs("<!--", inside, "-->"))
        self.form.extend(signs("<!--", inside, "-->"))

    def add_raw_element(self):
        name = self.chance.choice(["calc", "verb"])
        self.add_open_tag(name, False)
        inside = signs(self.chance.choice(["", "1", "<", "<<", "a<b", "&lt;", "<a b='c'>", "<!--"]))
        if name == "calc" and self.chance.random() < 0.5:
            mark = self.chance.randrange(256, 65536)
            self.marks.extend([mark, 5])
            inside = [mark] + inside
        if inside:
            self.tokens.append([4, len(self.text)] + inside)
        self.text.extend(inside)
        self.form.extend(inside)
        self.add_close_tag(name)

    def build(self):
        ends_in_text = False
        for k in range(self.chance.randrange(1, 10)):
            kind = self.chance.randrange(5)
            # Two runs of text side by side would be one.
            if kind == 0 and not ends_in_text:
                self.add_text()
            elif kind == 1:
                self.add_open_tag(self.chance.choice(NAMES), self.chance.random() < 0.5)
            elif kind == 2:
                self.add_close_tag(self.chance.choice(NAMES + ["calc", "verb"]))
            elif kind == 3:
                self.add_comment()
            elif kind == 4:
                self.add_raw_element()
            ends_in_text = kind == 0


class Built(unittest.TestCase):
    def test_what_is_told_is_what_was_put_in(self):
        kinds = set()
        for seed in range(1500):
            built = Builder(seed)
            built.build()
            tokens = [token(i) for i in range(len(built.tokens))]
            expected = [[0, 0], [len(built.tokens)], [25, len(built.text), 0, 0, 0, 0],
                        [len(built.marks) // 2] + built.marks, [len(built.form)] + built.form] + built.tokens
            telling = [FAULT, TOKENS, STATE, MARKS, WRITTEN] + tokens
            self.assertEqual(ask(whole(*built.text), *telling), [[0]] + expected, seed)
            cut = built.chance.randrange(len(built.text) + 1)
            self.assertEqual(ask(feed(*built.text[:cut]), feed(*built.text[cut:]), END, *telling)[3:], expected, seed)
            self.assertEqual(ask(whole(*built.form), WRITTEN), [[0], [len(built.form)] + built.form], seed)
            kinds.update([told[0] for told in built.tokens])
        self.assertEqual(kinds, {0, 1, 2, 3, 4})


if __name__ == "__main__":
    unittest.main()
