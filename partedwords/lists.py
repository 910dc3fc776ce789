"""Lists of words and patterns: what they hold, and their one form."""

from partedwords.tokens import BLANK, HYPHEN, NINE, POINT, ROW_END, SEMICOLON, ZERO
from partedwords.tokens import bytes_of, is_letter

FEWEST_WORD_LETTERS = 2
MOST_WORD_LETTERS = 16
MOST_PATTERN_LETTERS = 6


class Word:
    """A word's letters, and the gaps where it may be parted."""

    def __init__(self, chunk, letters, allowed):
        self.chunk = chunk
        self.letters = letters
        self.allowed = allowed

    def likeness(self):
        """What no two words of a list have in common."""
        return self.letters


class Pattern:
    """A pattern's letters, its digit at each of their gaps (0 for none), its points."""

    def __init__(self, chunk, letters, digits, points):
        self.chunk = chunk
        self.letters = letters
        self.digits = digits
        self.at_front = points[0]
        self.at_end = points[1]

    def likeness(self):
        """What no two patterns of a list have in common."""
        return (self.letters, self.at_front, self.at_end)


class WordList:
    """The margins, the words and the patterns that one text tells."""

    def __init__(self, margins, words, patterns):
        self.left = margins[0]
        self.right = margins[1]
        self.words = words
        self.patterns = patterns


def is_word_letters(letters):
    """Whether these bytes are as many small letters as a word may have."""
    if not FEWEST_WORD_LETTERS <= len(letters) <= MOST_WORD_LETTERS:
        return False
    return all([is_letter(byte) for byte in letters])


def word_of(chunk):
    """The word that a chunk tells, None if it tells none."""
    letters = []
    allowed = []
    for byte in chunk:
        if byte != HYPHEN:
            letters.append(byte)
        elif len(letters) in allowed:
            return None
        else:
            allowed.append(len(letters))
    if not is_word_letters(letters) or 0 in allowed or len(letters) in allowed:
        return None
    return Word(chunk, letters, allowed)


def pattern_of(chunk):
    """The pattern that a chunk tells, None if it tells none."""
    at_front = chunk[0] == POINT
    at_end = chunk[-1] == POINT
    start = 1 if at_front else 0
    end = len(chunk) - 1 if at_end else len(chunk)
    letters = []
    digits = [0]
    for byte in chunk[start:end]:
        if is_letter(byte):
            letters.append(byte)
            digits.append(0)
        elif ZERO < byte <= NINE and digits[-1] == 0:
            digits[-1] = byte - ZERO
        else:
            return None
    if not 1 <= len(letters) <= MOST_PATTERN_LETTERS or max(digits) == 0:
        return None
    return Pattern(chunk, letters, digits, (at_front, at_end))


def row_of(keyword, chunks):
    """One line of the one form."""
    row = bytes_of(keyword)
    for chunk in chunks:
        row.append(BLANK)
        row.extend(chunk)
    row.extend([BLANK, SEMICOLON, ROW_END])
    return row


def one_form(held):
    form = row_of("margins", [[ZERO + held.left], [ZERO + held.right]])
    for word in held.words:
        form.extend(row_of("word", [word.chunk]))
    for pattern in held.patterns:
        form.extend(row_of("pattern", [pattern.chunk]))
    return form
