"""The calls on one reader, and what they answer."""

from markreader.modes import ENDED, FAULTY
from markreader.signs import is_sign
from markreader.state import OPEN_TAG_TOKEN, Reader
from markreader.steps import read_end, read_signs
from markreader.writing import write_tokens

MOST_SIGNS = 16384

NOT_REFUSED = 0
NO_SIGN = -1
NOTHING_READ_ANY_MORE = -2
TOO_MANY_SIGNS = -3
NO_SUCH_TOKEN = -4


def reads_no_more(reader):
    return reader.mode in (ENDED, FAULTY)


def fault_now(reader):
    return 1 if reader.mode == FAULTY else 0


def refusal_of(signs, read_before):
    if not all([is_sign(number) for number in signs]):
        return NO_SIGN
    if read_before + len(signs) > MOST_SIGNS:
        return TOO_MANY_SIGNS
    return NOT_REFUSED


def with_length(signs):
    return [len(signs)] + list(signs)


def begin(reader):
    reader.renew()
    return [0]


def feed(reader, signs):
    if reads_no_more(reader):
        return [NOTHING_READ_ANY_MORE]
    refusal = refusal_of(signs, reader.read_count)
    if refusal != NOT_REFUSED:
        return [refusal]
    read_signs(reader, signs)
    return [fault_now(reader)]


def end(reader):
    if reads_no_more(reader):
        return [NOTHING_READ_ANY_MORE]
    read_end(reader)
    return [fault_now(reader)]


def fault(reader):
    return [reader.fault_kind, reader.fault_place]


def tokens(reader):
    return [len(reader.tokens)]


def parts_of_open_tag(tag):
    parts = [tag.ended] + with_length(tag.signs) + [len(tag.attributes)]
    for name, value in tag.attributes.items():
        parts.extend(with_length(name))
        parts.extend(with_length(value))
    return parts


def token(reader, i):
    if not 0 <= i < len(reader.tokens):
        return [NO_SUCH_TOKEN]
    asked = reader.tokens[i]
    parts = parts_of_open_tag(asked) if asked.kind == OPEN_TAG_TOKEN else asked.signs
    return [asked.kind, asked.place] + parts


def state(reader):
    counts = [reader.mode, reader.read_count, len(reader.attributes)]
    return counts + with_length(reader.tag_name) + with_length(reader.attribute_name) + with_length(reader.body)


def marks(reader):
    answer = [len(reader.marks)]
    for mark, spot in reader.marks:
        answer.extend([mark, spot])
    return answer


def written(reader):
    return with_length(write_tokens(reader.tokens))


def whole(reader, signs):
    refusal = refusal_of(signs, 0)
    if refusal != NOT_REFUSED:
        return [refusal]
    reader.renew()
    read_signs(reader, signs)
    if reader.mode != FAULTY:
        read_end(reader)
    return [fault_now(reader)]


# By the calls' numbers.
CALLS_ALONE = {0: begin, 2: end, 3: fault, 4: tokens, 6: state, 7: marks, 8: written}
CALLS_WITH_NUMBER = {5: token}
CALLS_WITH_SIGNS = {1: feed, 9: whole}


def length_of_call(calls, position):
    number = calls[position]
    if number in CALLS_WITH_SIGNS:
        return 2 + calls[position + 1]
    if number in CALLS_WITH_NUMBER:
        return 2
    return 1


def answer_of(reader, call):
    number = call[0]
    if number in CALLS_WITH_SIGNS:
        call_with_signs = CALLS_WITH_SIGNS[number]
        return call_with_signs(reader, call[2:])
    if number in CALLS_WITH_NUMBER:
        call_with_number = CALLS_WITH_NUMBER[number]
        return call_with_number(reader, call[1])
    call_alone = CALLS_ALONE[number]
    return call_alone(reader)


def answers(calls):
    reader = Reader()
    answered = []
    position = 0
    while position < len(calls):
        behind = position + length_of_call(calls, position)
        answered.extend(with_length(answer_of(reader, calls[position:behind])))
        position = behind
    return answered
