"""Parts a text, a list of bytes, into its tokens."""

BLANK = 32
ROW_END = 10
BLANKS = (32, 9, 10)
REMARK = 35
SEMICOLON = 59
HYPHEN = 45
POINT = 46
ZERO = 48
NINE = 57
SMALL_A = 97
SMALL_Z = 122

MOST_CHUNK_BYTES = 40

# The codes of a text's faults.
TEXT_TOO_LONG = 1
NO_TOKEN = 2
NOT_ALLOWED_HERE = 3
TOO_MANY = 4
TOLD_BEFORE = 5
NOT_AS_TOLD = 7


class TextFault(Exception):
    """What is wrong with a text, and at which place."""

    def __init__(self, code, place):
        Exception.__init__(self, code, place)
        self.code = code
        self.place = place


class Token:
    """A chunk or a semicolon; the text's end is the token without bytes."""

    def __init__(self, place, content):
        self.place = place
        self.content = content

    def is_chunk(self):
        return self.content != [] and self.content != [SEMICOLON]


def bytes_of(written):
    return [ord(sign) for sign in written]


def is_letter(byte):
    return SMALL_A <= byte <= SMALL_Z


def is_chunk_byte(byte):
    return is_letter(byte) or ZERO <= byte <= NINE or byte == HYPHEN or byte == POINT


def remark_end(text, start):
    """The place of the row's end behind a remark, or that of the text's end."""
    place = start
    while place < len(text) and text[place] != ROW_END:
        place += 1
    return place


def chunk_end(text, start):
    """The place behind the chunk at start; start itself if no chunk begins there."""
    place = start
    while place < len(text) and is_chunk_byte(text[place]):
        place += 1
    return place


def token_at(text, place):
    if text[place] == SEMICOLON:
        return Token(place, [SEMICOLON])
    end = chunk_end(text, place)
    if end == place or end - place > MOST_CHUNK_BYTES:
        raise TextFault(NO_TOKEN, place)
    return Token(place, text[place:end])


def tokens_of(text):
    """All tokens of a text, the text's end as the last one."""
    found = []
    place = 0
    while place < len(text):
        if text[place] in BLANKS:
            place += 1
        elif text[place] == REMARK:
            place = remark_end(text, place)
        else:
            token = token_at(text, place)
            found.append(token)
            place += len(token.content)
    found.append(Token(len(text), []))
    return found
