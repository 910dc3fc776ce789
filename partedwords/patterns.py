"""Answers calls on one object that holds a list of words and patterns, or none."""

from partedwords.lists import is_word_letters, one_form
from partedwords.parting import gap_levels, hits_faults_misses, parted_gaps
from partedwords.reading import read_list
from partedwords.tokens import TextFault

LOAD = 0
SHOWN = 1
LEVELS = 2
PART = 3

NO_LIST = -1
NO_SUCH = -2
NO_LETTERS = -4

# By a call's number: how many single numbers it has, and whether a row.
# The calls from 4 on are read as well, so that they are refused while no list is held.
SINGLE_NUMBERS = (0, 0, 0, 1, 0, 2, 1, 0)
CALLS_WITH_ROW = (0, 2, 7)


class CallNotWritten(Exception):
    """The call belongs to the interface, but this program doesn't answer it yet."""


class Holder:
    """The object that the calls are made on."""

    def __init__(self):
        self.held = None

    def load(self, text):
        try:
            read = read_list(text)
        except TextFault as fault:
            return [0, fault.code, fault.place]
        self.held = read
        return [1, len(read.words), len(read.patterns)]

    def answer(self, number, handed):
        if number == LOAD:
            return self.load(handed)
        if self.held is None:
            return [NO_LIST]
        if number == SHOWN:
            return shown(self.held)
        if number == LEVELS:
            return levels_of(self.held, handed)
        if number == PART:
            return part(self.held, handed[0])
        raise CallNotWritten(number)


def shown(held):
    form = one_form(held)
    return [len(form)] + form


def levels_of(held, letters):
    if not is_word_letters(letters):
        return [NO_LETTERS]
    levels = gap_levels(held.patterns, letters)
    inner = levels[1:-1]
    return [len(inner)] + inner + parted_gaps(held, levels)


def part(held, i):
    if not 0 <= i < len(held.words):
        return [NO_SUCH]
    word = held.words[i]
    parted = parted_gaps(held, gap_levels(held.patterns, word.letters))
    return [len(parted)] + parted + hits_faults_misses(held, word, parted)


def call_end(calls, start):
    """The place behind the call whose number stands at start."""
    number = calls[start]
    end = start + 1 + SINGLE_NUMBERS[number]
    if number in CALLS_WITH_ROW:
        return end + 1 + calls[end]
    return end


def handed_numbers(calls, start, end):
    """A call's single numbers, or its row without the length; no call has both."""
    if calls[start] in CALLS_WITH_ROW:
        return calls[start + 2:end]
    return calls[start + 1:end]


def answers(calls):
    holder = Holder()
    given = []
    start = 0
    while start < len(calls):
        end = call_end(calls, start)
        answer = holder.answer(calls[start], handed_numbers(calls, start, end))
        given.append(len(answer))
        given.extend(answer)
        start = end
    return given
