"""The one form in which tokens are written."""

from markreader.signs import AMPERSAND, DASH, EQUALS, EXCLAMATION, GREATER, LESS, QUOTE, SLASH, SPACE

# From a byte to the reference that is written for it: &quot; and &amp; and &lt; in this order.
REFERENCES = {
    34: (38, 113, 117, 111, 116, 59),
    38: (38, 97, 109, 112, 59),
    60: (38, 108, 116, 59),
}


def with_references(signs, replaced):
    written = []
    for sign in signs:
        if sign in replaced:
            written.extend(REFERENCES[sign])
        else:
            written.append(sign)
    return written


def write_run_of_text(token):
    return with_references(token.signs, (AMPERSAND, LESS))


def write_attribute(name, value):
    return [SPACE] + list(name) + [EQUALS, QUOTE] + with_references(value, (AMPERSAND, QUOTE)) + [QUOTE]


def write_open_tag(token):
    written = [LESS] + token.signs
    for name, value in token.attributes.items():
        written.extend(write_attribute(name, value))
    if token.ended == 1:
        written.append(SLASH)
    written.append(GREATER)
    return written


def write_close_tag(token):
    return [LESS, SLASH] + token.signs + [GREATER]


def write_comment(token):
    return [LESS, EXCLAMATION, DASH, DASH] + token.signs + [DASH, DASH, GREATER]


def write_raw_text(token):
    return list(token.signs)


# By the tokens' kinds.
WRITERS = {0: write_run_of_text, 1: write_open_tag, 2: write_close_tag, 3: write_comment, 4: write_raw_text}


def write_tokens(tokens):
    written = []
    for token in tokens:
        write = WRITERS[token.kind]
        written.extend(write(token))
    return written
