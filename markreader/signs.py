"""The signs of a text, and what each sort of sign is called."""

SPACE = 32
EXCLAMATION = 33
QUOTE = 34
NUMBER_SIGN = 35
AMPERSAND = 38
APOSTROPHE = 39
DASH = 45
SLASH = 47
SEMICOLON = 59
LESS = 60
EQUALS = 61
GREATER = 62

BLANKS = (9, 10, 13, 32)
NOT_BARE = (34, 38, 39, 60, 61, 62, 96)


def is_sign(number):
    return 0 <= number <= 65535


def is_mark(sign):
    return sign >= 256


def is_blank(sign):
    return sign in BLANKS


def is_small_letter(sign):
    return 97 <= sign <= 122


def is_large_letter(sign):
    return 65 <= sign <= 90


def is_digit(sign):
    return 48 <= sign <= 57


def is_name_sign(sign):
    return is_small_letter(sign) or is_digit(sign) or sign == DASH


def is_body_sign(sign):
    return is_small_letter(sign) or is_large_letter(sign) or is_digit(sign) or sign == NUMBER_SIGN


def is_bare_sign(sign):
    return not is_mark(sign) and not is_blank(sign) and sign not in NOT_BARE
