"""The calls on one reader, and what they answer."""

from markreader.modes import ENDED, FAULTY
from markreader.signs import is_sign
from markreader.state import Reader
from markreader.steps import read_end, read_signs

MOST_SIGNS = 16384

NOT_REFUSED = 0
NO_SIGN = -1
NOTHING_READ_ANY_MORE = -2
TOO_MANY_SIGNS = -3


def reads_no_more(reader):
    return reader.mode in (ENDED, FAULTY)


def fault_now(reader):
    return 1 if reader.mode == FAULTY else 0


def refusal_of(signs, read_before):
    if not all([is_sign(number) for number in signs]):
        return NO_SIGN
    if read_before + len(signs) > MOST_SIGNS:
        return TOO_MANY_SIGNS
    return NOT_REFUSED


def begin(reader):
    reader.renew()
    return [0]


def feed(reader, signs):
    if reads_no_more(reader):
        return [NOTHING_READ_ANY_MORE]
    refusal = refusal_of(signs, reader.read_count)
    if refusal != NOT_REFUSED:
        return [refusal]
    read_signs(reader, signs)
    return [fault_now(reader)]


def end(reader):
    if reads_no_more(reader):
        return [NOTHING_READ_ANY_MORE]
    read_end(reader)
    return [fault_now(reader)]


def fault(reader):
    return [reader.fault_kind, reader.fault_place]


def tokens(reader):
    return [len(reader.tokens)]


def whole(reader, signs):
    refusal = refusal_of(signs, 0)
    if refusal != NOT_REFUSED:
        return [refusal]
    reader.renew()
    read_signs(reader, signs)
    if reader.mode != FAULTY:
        read_end(reader)
    return [fault_now(reader)]


# By the calls' numbers.
CALLS_WITHOUT_SIGNS = {0: begin, 2: end, 3: fault, 4: tokens}
CALLS_WITH_SIGNS = {1: feed, 9: whole}


def answers(calls):
    reader = Reader()
    answered = []
    position = 0
    while position < len(calls):
        number = calls[position]
        if number in CALLS_WITH_SIGNS:
            first = position + 2
            behind = first + calls[position + 1]
            call_with_signs = CALLS_WITH_SIGNS[number]
            answer = call_with_signs(reader, calls[first:behind])
        else:
            behind = position + 1
            call_without_signs = CALLS_WITHOUT_SIGNS[number]
            answer = call_without_signs(reader)
        answered.append(len(answer))
        answered.extend(answer)
        position = behind
    return answered
