"""Calls written as tests like to write them, and their answers one by one."""

from markreader.reader import answers

BEGIN = [0]
END = [2]
FAULT = [3]
TOKENS = [4]
STATE = [6]
MARKS = [7]
WRITTEN = [8]

MOST_SIGNS = 16384


def signs(*parts):
    """Texts and single numbers, one behind another, as one list of numbers."""
    numbers = []
    for part in parts:
        numbers.extend([part] if isinstance(part, int) else [ord(letter) for letter in part])
    return numbers


def with_signs(number, parts):
    numbers = signs(*parts)
    return [number, len(numbers)] + numbers


def feed(*parts):
    return with_signs(1, parts)


def whole(*parts):
    return with_signs(9, parts)


def token(i):
    return [5, i]


# All that a reader tells, which changes nothing in it.
TELLING = [FAULT, TOKENS, STATE, MARKS, WRITTEN] + [token(i) for i in range(8)]


def ask(*calls):
    """The answers of these calls on one new reader, a list for each call."""
    line = [number for call in calls for number in call]
    given = answers(line)
    apart = []
    first = 0
    while first < len(given):
        behind = first + 1 + given[first]
        apart.append(given[first + 1:behind])
        first = behind
    return apart


def ask_last(*calls):
    """The answer of the last of these calls."""
    return ask(*calls)[-1]


def fault_behind(*parts):
    """The fault's kind and place behind a feed of these."""
    return ask(feed(*parts), FAULT)[1]


def tokens_behind(*parts):
    """How many tokens are whole behind a feed of these."""
    return ask(feed(*parts), TOKENS)[1][0]


def told_tokens(*parts):
    """The answers of token for all tokens of a whole reading of these, which must have no fault."""
    line = whole(*parts)
    answer, count = ask(line, TOKENS)
    if answer != [0]:
        raise ValueError("a fault in " + repr(parts))
    return ask(line, *[token(i) for i in range(count[0])])[1:]


def written_behind(*parts):
    """The signs of the written form behind a whole reading of these, with or without a fault."""
    given = ask_last(whole(*parts), WRITTEN)
    if given[0] != len(given) - 1:
        raise ValueError("a wrong length ahead of the written signs")
    return given[1:]


def listed(*texts):
    """Each text with its length before it, one behind another."""
    numbers = []
    for text in texts:
        numbers.extend([len(signs(*text))] + signs(*text))
    return numbers


# For each mode that reads, texts that lead a new reader to it.
WAYS = {
    0: ["", "a", "<a>", "</a>", "<a/>", "<!---->", "<calc></calc>", "a&lt;"],
    1: ["&", "a&"],
    2: ['<a b="&', '<a b="x&'],
    3: ["<a b='&", "<a b='x&"],
    4: ["<a b=&", "<a b=x&"],
    5: ["<", "a<"],
    6: ["<a", "<a1-"],
    7: ["</"],
    8: ["</a", "</a1-"],
    9: ["<a ", "<a \t\n\r", "<a b ", "<a b=c ", '<a b="c" '],
    10: ["<a b", "<a b1-", "<a b c"],
    11: ["<a b="],
    12: ['<a b="', '<a b="x', '<a b="&lt;'],
    13: ["<a b='", "<a b='x", "<a b='&lt;"],
    14: ["<a b=x", "<a b=/", "<a b=&lt;"],
    15: ['<a b=""', "<a b=''", '<a b="x"'],
    16: ["<a/", "<a /", "<a b/", "<a b='c'/"],
    17: ["<!"],
    18: ["<!-"],
    19: ["<!--", "<!--a", "<!---a", "<!----a", "<!-->"],
    20: ["<!---", "<!--a-"],
    21: ["<!----", "<!--a--", "<!-----"],
    22: ["<calc>", "<calc>a", "<calc><a", "<verb>", "<verb>a", "<verb><a"],
    23: ["<calc><", "<calc><<", "<verb>a<"],
    24: ["<calc></", "<calc>a</cal", "<verb></verb"],
}
