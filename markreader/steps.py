"""How the reader takes one sign, mode by mode, and how it takes the end."""

from markreader.modes import (
    ATTRIBUTE_NAME, BARE_VALUE, BEHIND_EQUALS, BEHIND_FIRST_DASH, BEHIND_LESS, BEHIND_LESS_EXCLAMATION,
    BEHIND_LESS_SLASH, BEHIND_SLASH, BEHIND_VALUE, CLOSE_TAG_NAME, COMMENT, COMMENT_ONE_DASH, COMMENT_TWO_DASHES,
    ENDED, FAULTY, GAP, OPEN_TAG_NAME, RAW_BEHIND_LESS, RAW_CLOSE_TAG, RAW_TEXT, REFERENCE_IN_APOSTROPHES,
    REFERENCE_IN_BARE_VALUE, REFERENCE_IN_QUOTES, REFERENCE_IN_TEXT, TEXT, VALUE_IN_APOSTROPHES, VALUE_IN_QUOTES,
)
from markreader.references import reference_byte
from markreader.signs import (
    AMPERSAND, APOSTROPHE, DASH, EQUALS, EXCLAMATION, GREATER, LESS, QUOTE, SEMICOLON, SLASH,
    is_bare_sign, is_blank, is_body_sign, is_mark, is_name_sign, is_small_letter,
)
from markreader.state import CALC, CLOSE_TAG_TOKEN, COMMENT_TOKEN, RAW_TEXT_TOKEN, RUN_OF_TEXT_TOKEN

WRONG_BYTE = 1
LONG_NAME = 2
SAME_ATTRIBUTE = 3
NO_REFERENCE = 4
WRONG_MARK = 5
WRONG_RAW_END = 6
EARLY_END = 7

LONGEST_NAME = 32
LONGEST_BODY = 4

# From each mode within a reference to the mode behind it.
MODES_BEHIND_REFERENCE = {1: 0, 2: 12, 3: 13, 4: 14}

# From each mode that takes marks to the spot that is noted.
SPOTS = {0: 0, 11: 4, 12: 1, 13: 2, 14: 3, 22: 5}


def read_in_text(reader, sign):
    if sign == LESS:
        end_run_of_text(reader)
        reader.mode = BEHIND_LESS
    elif sign == AMPERSAND:
        reader.mode = REFERENCE_IN_TEXT
    else:
        reader.run.append(sign)


def end_run_of_text(reader):
    if reader.run != []:
        reader.end_run(RUN_OF_TEXT_TOKEN, reader.read_count)


def read_in_reference(reader, sign):
    if sign == SEMICOLON:
        end_reference(reader)
    elif is_body_sign(sign) and len(reader.body) < LONGEST_BODY:
        reader.body.append(sign)
    else:
        reader.fail(NO_REFERENCE)


def end_reference(reader):
    meant = reference_byte(reader.body)
    if meant is None:
        reader.fail(NO_REFERENCE)
    else:
        reader.run.append(meant)
        reader.body = []
        reader.mode = MODES_BEHIND_REFERENCE[reader.mode]


def read_behind_less(reader, sign):
    if is_small_letter(sign):
        reader.tag_name = [sign]
        reader.mode = OPEN_TAG_NAME
    elif sign == SLASH:
        reader.mode = BEHIND_LESS_SLASH
    elif sign == EXCLAMATION:
        reader.mode = BEHIND_LESS_EXCLAMATION
    else:
        reader.fail(WRONG_BYTE)


def add_to_name(reader, name, sign):
    if len(name) == LONGEST_NAME:
        reader.fail(LONG_NAME)
    else:
        name.append(sign)


def read_in_open_tag_name(reader, sign):
    if is_name_sign(sign):
        add_to_name(reader, reader.tag_name, sign)
    else:
        read_behind_part_of_tag(reader, sign)


def read_behind_part_of_tag(reader, sign):
    if is_blank(sign):
        reader.mode = GAP
    elif sign == SLASH:
        reader.mode = BEHIND_SLASH
    elif sign == GREATER:
        reader.end_open_tag()
    else:
        reader.fail(WRONG_BYTE)


def read_behind_less_slash(reader, sign):
    if is_small_letter(sign):
        reader.tag_name = [sign]
        reader.mode = CLOSE_TAG_NAME
    else:
        reader.fail(WRONG_BYTE)


def read_in_close_tag_name(reader, sign):
    if is_name_sign(sign):
        add_to_name(reader, reader.tag_name, sign)
    elif sign == GREATER:
        end_close_tag(reader)
    else:
        reader.fail(WRONG_BYTE)


def end_close_tag(reader):
    reader.add_token(CLOSE_TAG_TOKEN, reader.tag_name, reader.read_count + 1)
    reader.end_tag()


def read_in_gap(reader, sign):
    if is_small_letter(sign):
        reader.attribute_name = [sign]
        reader.mode = ATTRIBUTE_NAME
    else:
        read_behind_part_of_tag(reader, sign)


def read_in_attribute_name(reader, sign):
    if is_name_sign(sign):
        add_to_name(reader, reader.attribute_name, sign)
    elif not is_blank(sign) and sign not in (SLASH, GREATER, EQUALS):
        reader.fail(WRONG_BYTE)
    elif tuple(reader.attribute_name) in reader.attributes:
        reader.fail(SAME_ATTRIBUTE)
    elif sign == EQUALS:
        reader.mode = BEHIND_EQUALS
    else:
        reader.end_attribute()
        read_behind_part_of_tag(reader, sign)


def read_behind_equals(reader, sign):
    if sign == QUOTE:
        reader.mode = VALUE_IN_QUOTES
    elif sign == APOSTROPHE:
        reader.mode = VALUE_IN_APOSTROPHES
    elif sign == AMPERSAND:
        reader.mode = REFERENCE_IN_BARE_VALUE
    elif is_mark(sign):
        reader.run.append(sign)
        reader.end_attribute()
        reader.mode = BEHIND_VALUE
    elif is_bare_sign(sign):
        reader.run.append(sign)
        reader.mode = BARE_VALUE
    else:
        reader.fail(WRONG_BYTE)


def read_in_quotes(reader, sign):
    read_between(reader, sign, QUOTE, REFERENCE_IN_QUOTES)


def read_in_apostrophes(reader, sign):
    read_between(reader, sign, APOSTROPHE, REFERENCE_IN_APOSTROPHES)


def read_between(reader, sign, closing, reference_mode):
    if sign == closing:
        reader.end_attribute()
        reader.mode = BEHIND_VALUE
    elif sign == AMPERSAND:
        reader.mode = reference_mode
    else:
        reader.run.append(sign)


def read_in_bare_value(reader, sign):
    if is_bare_sign(sign) or is_mark(sign):
        reader.run.append(sign)
    elif sign == AMPERSAND:
        reader.mode = REFERENCE_IN_BARE_VALUE
    elif is_blank(sign) or sign == GREATER:
        reader.end_attribute()
        read_behind_part_of_tag(reader, sign)
    else:
        reader.fail(WRONG_BYTE)


def read_behind_slash(reader, sign):
    if sign == GREATER:
        reader.end_ended_tag()
    else:
        reader.fail(WRONG_BYTE)


def read_dash_ahead_of_comment(reader, sign):
    if sign != DASH:
        reader.fail(WRONG_BYTE)
    elif reader.mode == BEHIND_LESS_EXCLAMATION:
        reader.mode = BEHIND_FIRST_DASH
    else:
        reader.mode = COMMENT


def read_in_comment(reader, sign):
    if sign == DASH:
        reader.mode = COMMENT_ONE_DASH
    else:
        reader.run.append(sign)


def read_behind_one_dash(reader, sign):
    if sign == DASH:
        reader.mode = COMMENT_TWO_DASHES
    else:
        reader.run.extend([DASH, sign])
        reader.mode = COMMENT


def read_behind_two_dashes(reader, sign):
    if sign == DASH:
        reader.run.append(DASH)
    elif sign == GREATER:
        reader.end_run(COMMENT_TOKEN, reader.read_count + 1)
        reader.mode = TEXT
    else:
        reader.run.extend([DASH, DASH, sign])
        reader.mode = COMMENT


def read_in_raw_text(reader, sign):
    if sign == LESS:
        reader.mode = RAW_BEHIND_LESS
    else:
        reader.run.append(sign)


def read_in_raw_text_behind_less(reader, sign):
    if sign == SLASH:
        reader.mode = RAW_CLOSE_TAG
    elif sign == LESS:
        reader.run.append(LESS)
    else:
        reader.run.extend([LESS, sign])
        reader.mode = RAW_TEXT


def read_in_raw_close_tag(reader, sign):
    rest = reader.tag_name[len(reader.body):]
    if rest == [] and sign == GREATER:
        end_raw_element(reader)
    elif rest[:1] == [sign]:
        reader.body.append(sign)
    else:
        reader.fail(WRONG_RAW_END)


def end_raw_element(reader):
    if reader.run != []:
        # The close tag's < and / and name have been read, its > has not.
        close_tag_place = reader.read_count - len(reader.tag_name) - 2
        reader.end_run(RAW_TEXT_TOKEN, close_tag_place)
    reader.body = []
    end_close_tag(reader)


# By the modes' numbers; in modes 25 and 26 nothing is read.
STEPS = {
    0: read_in_text,
    1: read_in_reference,
    2: read_in_reference,
    3: read_in_reference,
    4: read_in_reference,
    5: read_behind_less,
    6: read_in_open_tag_name,
    7: read_behind_less_slash,
    8: read_in_close_tag_name,
    9: read_in_gap,
    10: read_in_attribute_name,
    11: read_behind_equals,
    12: read_in_quotes,
    13: read_in_apostrophes,
    14: read_in_bare_value,
    15: read_behind_part_of_tag,
    16: read_behind_slash,
    17: read_dash_ahead_of_comment,
    18: read_dash_ahead_of_comment,
    19: read_in_comment,
    20: read_behind_one_dash,
    21: read_behind_two_dashes,
    22: read_in_raw_text,
    23: read_in_raw_text_behind_less,
    24: read_in_raw_close_tag,
}


def takes_marks(reader):
    if reader.mode == RAW_TEXT:
        return tuple(reader.tag_name) == CALC
    return reader.mode in SPOTS


def read_sign(reader, sign):
    if is_mark(sign):
        if not takes_marks(reader):
            reader.fail(WRONG_MARK)
            return
        reader.marks.append((sign, SPOTS[reader.mode]))
    step = STEPS[reader.mode]
    step(reader, sign)


def read_signs(reader, signs):
    for sign in signs:
        read_sign(reader, sign)
        # The sign of a fault is not read.
        if reader.mode == FAULTY:
            return
        reader.read_count = reader.read_count + 1


def read_end(reader):
    if reader.mode == TEXT:
        end_run_of_text(reader)
        reader.mode = ENDED
    else:
        reader.fail(EARLY_END)
