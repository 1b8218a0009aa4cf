"""What the reader keeps, and the changes that several modes share."""

from markreader.modes import FAULTY, RAW_TEXT, TEXT

RUN_OF_TEXT_TOKEN = 0
OPEN_TAG_TOKEN = 1
CLOSE_TAG_TOKEN = 2
COMMENT_TOKEN = 3
RAW_TEXT_TOKEN = 4

# The names calc and verb.
CALC = (99, 97, 108, 99)
VERB = (118, 101, 114, 98)


class Token:
    def __init__(self, kind, place, signs, attributes, ended):
        self.kind = kind
        self.place = place
        # A tag's signs are its name.
        self.signs = signs
        self.attributes = attributes
        self.ended = ended


class Reader:
    def __init__(self):
        self.renew()

    def renew(self):
        self.mode = TEXT
        self.read_count = 0
        self.fault_kind = 0
        self.fault_place = 0
        self.tokens = []
        # Tokens lie side by side, so each begins where the one before it ended.
        self.token_place = 0
        self.tag_name = []
        # From a name, as a tuple, to a value: a tag has each name once, and the order is kept.
        self.attributes = {}
        self.attribute_name = []
        self.body = []
        self.run = []
        self.marks = []

    def fail(self, kind):
        self.mode = FAULTY
        self.fault_kind = kind
        self.fault_place = self.read_count

    def add_token(self, kind, signs, place_behind):
        self.tokens.append(Token(kind, self.token_place, signs, {}, 0))
        self.token_place = place_behind

    def end_run(self, kind, place_behind):
        self.add_token(kind, self.run, place_behind)
        self.run = []

    def end_attribute(self):
        self.attributes[tuple(self.attribute_name)] = self.run
        self.attribute_name = []
        self.run = []

    def add_open_tag(self, ended):
        self.tokens.append(Token(OPEN_TAG_TOKEN, self.token_place, self.tag_name, self.attributes, ended))
        self.token_place = self.read_count + 1
        self.attributes = {}

    def end_tag(self):
        self.tag_name = []
        self.mode = TEXT

    def end_open_tag(self):
        self.add_open_tag(0)
        if tuple(self.tag_name) in (CALC, VERB):
            self.mode = RAW_TEXT
        else:
            self.end_tag()

    def end_ended_tag(self):
        self.add_open_tag(1)
        self.end_tag()
