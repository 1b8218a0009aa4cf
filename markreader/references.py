"""Which byte a reference stands for."""

from markreader.signs import is_digit

# The bodies amp, lt, gt, quot and apos.
NAMED_BYTES = {
    (97, 109, 112): 38,
    (108, 116): 60,
    (103, 116): 62,
    (113, 117, 111, 116): 34,
    (97, 112, 111, 115): 39,
}

# As large as the larger base, so that it is too large for a digit of either.
NO_DIGIT = 16


def digit_value(sign):
    if is_digit(sign):
        return sign - 48
    if 97 <= sign <= 102:
        return sign - 87
    if 65 <= sign <= 70:
        return sign - 55
    return NO_DIGIT


def number_byte(digits, base, most_digits):
    if not 1 <= len(digits) <= most_digits:
        return None
    number = 0
    for digit in digits:
        value = digit_value(digit)
        if value >= base:
            return None
        number = number * base + value
    return number if number <= 255 else None


def reference_byte(body):
    if tuple(body) in NAMED_BYTES:
        return NAMED_BYTES[tuple(body)]
    if body[:2] == [35, 120]:
        return number_byte(body[2:], 16, 2)
    if body[:1] == [35]:
        return number_byte(body[1:], 10, 3)
    return None
