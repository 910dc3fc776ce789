"""Reads a text as a list of words and patterns, or tells its fault."""

from partedwords.lists import WordList, pattern_of, word_of
from partedwords.tokens import NOT_ALLOWED_HERE, NOT_AS_TOLD, TEXT_TOO_LONG, TOLD_BEFORE, TOO_MANY
from partedwords.tokens import SEMICOLON, ZERO, TextFault, bytes_of, tokens_of

MOST_TEXT_BYTES = 4096
GREATEST_MARGIN = 5
MOST_WORDS = 24
MOST_PATTERNS = 40


class Reader:
    """Goes through a text's tokens from left to right."""

    def __init__(self, tokens):
        self.tokens = tokens
        self.taken = 0

    def here(self):
        return self.tokens[self.taken]

    def stands_at(self, content):
        return self.here().content == content

    def take(self, content):
        """Steps behind the one token that is allowed here."""
        if not self.stands_at(content):
            raise TextFault(NOT_ALLOWED_HERE, self.here().place)
        self.taken += 1

    def take_chunk(self):
        token = self.here()
        if not token.is_chunk():
            raise TextFault(NOT_ALLOWED_HERE, token.place)
        self.taken += 1
        return token


def read_margin(reader):
    token = reader.take_chunk()
    margin = token.content[0] - ZERO
    if len(token.content) > 1 or not 0 <= margin <= GREATEST_MARGIN:
        raise TextFault(NOT_AS_TOLD, token.place)
    return margin


def read_entry(reader, entry_of, earlier):
    """The word or pattern whose chunk has to stand here."""
    token = reader.take_chunk()
    entry = entry_of(token.content)
    if entry is None:
        raise TextFault(NOT_AS_TOLD, token.place)
    if entry.likeness() in [other.likeness() for other in earlier]:
        raise TextFault(TOLD_BEFORE, token.place)
    return entry


def read_entries(reader, keyword, entry_of, most):
    """All words, or all patterns, that stand here one behind another."""
    entries = []
    while reader.stands_at(keyword):
        if len(entries) == most:
            raise TextFault(TOO_MANY, reader.here().place)
        reader.take(keyword)
        entries.append(read_entry(reader, entry_of, entries))
        reader.take([SEMICOLON])
    return entries


def read_list(text):
    """The list that a text tells; TextFault with the first fault if it is not right."""
    if len(text) > MOST_TEXT_BYTES:
        raise TextFault(TEXT_TOO_LONG, MOST_TEXT_BYTES)
    reader = Reader(tokens_of(text))
    reader.take(bytes_of("margins"))
    left = read_margin(reader)
    right = read_margin(reader)
    reader.take([SEMICOLON])
    words = read_entries(reader, bytes_of("word"), word_of, MOST_WORDS)
    patterns = read_entries(reader, bytes_of("pattern"), pattern_of, MOST_PATTERNS)
    # The token without bytes is the text's end.
    reader.take([])
    return WordList((left, right), words, patterns)
