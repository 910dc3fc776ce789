"""Answers calls on one object that holds a list of words and patterns, or none."""

from partedwords.lists import is_word_letters, one_form
from partedwords.parting import bearers, fitting_places, gap_levels, hits_faults_misses
from partedwords.parting import hyphened, parted_gaps, parted_of
from partedwords.reading import read_list
from partedwords.tokens import TextFault

LOAD = 0
SHOWN = 1
LEVELS = 2
PART = 3
SCORE = 4
WHY = 5
FITS = 6

NO_LIST = -1
NO_SUCH = -2
NO_GAP = -3
NO_LETTERS = -4

# By a call's number: how many single numbers it has, and whether a row.
SINGLE_NUMBERS = (0, 0, 0, 1, 0, 2, 1, 0)
CALLS_WITH_ROW = (0, 2, 7)


class Holder:
    """The object that the calls are made on."""

    def __init__(self):
        self.held = None

    def load(self, text):
        try:
            read = read_list(text)
        except TextFault as fault:
            return [0, fault.code, fault.place]
        self.held = read
        return [1, len(read.words), len(read.patterns)]

    def answer(self, number, handed):
        if number == LOAD:
            return self.load(handed)
        if self.held is None:
            return [NO_LIST]
        return answer_from(self.held, number, handed)


def answer_from(held, number, handed):
    """What a list answers a call other than load."""
    if number == SHOWN:
        return shown(held)
    if number == LEVELS:
        return levels_of(held, handed)
    if number == PART:
        return part(held, handed[0])
    if number == SCORE:
        return score(held)
    if number == WHY:
        return why(held, handed[0], handed[1])
    if number == FITS:
        return fits(held, handed[0])
    return spell(held, handed)


def shown(held):
    form = one_form(held)
    return [len(form)] + form


def levels_of(held, letters):
    if not is_word_letters(letters):
        return [NO_LETTERS]
    levels = gap_levels(held.patterns, letters)
    inner = levels[1:-1]
    return [len(inner)] + inner + parted_gaps(held, levels)


def part(held, i):
    if not 0 <= i < len(held.words):
        return [NO_SUCH]
    word = held.words[i]
    parted = parted_of(held, word.letters)
    return [len(parted)] + parted + hits_faults_misses(held, word, parted)


def score(held):
    together = [0, 0, 0, 0]
    for word in held.words:
        counts = hits_faults_misses(held, word, parted_of(held, word.letters))
        exact = 1 if counts[1] == 0 and counts[2] == 0 else 0
        together = [total + count for total, count in zip(together, [exact] + counts)]
    return together


def why(held, i, g):
    if not 0 <= i < len(held.words):
        return [NO_SUCH]
    letters = held.words[i].letters
    if not 1 <= g < len(letters):
        return [NO_GAP]
    level = gap_levels(held.patterns, letters)[g]
    if level == 0:
        return [0]
    first = bearers(held.patterns, letters, g, level)[0]
    return [1, first[0], first[1], level]


def fits(held, p):
    if not 0 <= p < len(held.patterns):
        return [NO_SUCH]
    found = []
    for number, word in enumerate(held.words):
        for place in fitting_places(held.patterns[p], word.letters):
            found.extend([number, place])
    return [len(found) // 2] + found


def spell(held, letters):
    if not is_word_letters(letters):
        return [NO_LETTERS]
    written = hyphened(letters, parted_of(held, letters))
    return [len(written)] + written


def call_end(calls, start):
    """The place behind the call whose number stands at start."""
    number = calls[start]
    end = start + 1 + SINGLE_NUMBERS[number]
    if number in CALLS_WITH_ROW:
        return end + 1 + calls[end]
    return end


def handed_numbers(calls, start, end):
    """A call's single numbers, or its row without the length; no call has both."""
    if calls[start] in CALLS_WITH_ROW:
        return calls[start + 2:end]
    return calls[start + 1:end]


def answers(calls):
    holder = Holder()
    given = []
    start = 0
    while start < len(calls):
        end = call_end(calls, start)
        answer = holder.answer(calls[start], handed_numbers(calls, start, end))
        given.append(len(answer))
        given.extend(answer)
        start = end
    return given
