"""Calls as lists of whole numbers, and their answers one by one."""

from partedwords.patterns import answers

MOST = 10 ** 18

WORKED = ("margins 2 2 ; word ta-ble ; word ca-ble ; word ab-le ; "
          "pattern a1b ; pattern ab2l ; pattern .ab3 ;")


def numbers(text):
    """A text as bytes; lists of bytes stay as they are."""
    return list(text.encode("ascii")) if isinstance(text, str) else list(text)


def load(text):
    row = numbers(text)
    return [0, len(row)] + row


def shown():
    return [1]


def levels(letters):
    row = numbers(letters)
    return [2, len(row)] + row


def part(i):
    return [3, i]


def score():
    return [4]


def why(i, g):
    return [5, i, g]


def fits(p):
    return [6, p]


def spell(letters):
    row = numbers(letters)
    return [7, len(row)] + row


def split(given):
    """The answers that stand one behind another, each without its count."""
    found = []
    start = 0
    while start < len(given):
        end = start + 1 + given[start]
        assert given[start] > 0 and end <= len(given), "a count is wrong"
        found.append(given[start + 1:end])
        start = end
    return found


def run(*calls):
    """The answers to these calls on one object, looked at for their kinds."""
    assert 1 <= len(calls) <= 100, "not a line that is handed in"
    line = [number for call in calls for number in call]
    given = answers(line)
    assert isinstance(given, list) and all(type(number) is int for number in given)
    found = split(given)
    assert len(found) == len(calls), "not one answer for each call"
    return found


def answer_of(text, call):
    """What a call answers behind a load that has to be right."""
    loaded, answer = run(load(text), call)
    assert loaded[0] == 1, f"the list is not right: {loaded}"
    return answer


def answers_of(text, asked):
    """What any number of calls answer, asked in lines that each load the list first."""
    found = []
    for start in range(0, len(asked), 99):
        answered = run(load(text), *asked[start:start + 99])
        assert answered[0][0] == 1, f"the list is not right: {answered[0]}"
        found += answered[1:]
    return found


def form_of(text):
    """The one form of a list as a text."""
    form = answer_of(text, shown())
    assert form[0] == len(form) - 1, "the form's length is wrong"
    return bytes(form[1:]).decode("ascii")


def levels_of(text, letters):
    """The levels that a list has in letters, and the gaps where it parts them."""
    answer = answer_of(text, levels(letters))
    gaps = answer[0]
    assert gaps == len(letters) - 1, "not as many gaps as the letters have"
    return answer[1:gaps + 1], answer[gaps + 1:]


def parts_of(text, i):
    """The parted gaps of a listed word, and its hits, faults and misses."""
    answer = answer_of(text, part(i))
    gaps = answer[0]
    assert len(answer) == gaps + 4, "not as many numbers as there are to be"
    return answer[1:gaps + 1], answer[gaps + 1:]


def spelt(text, letters):
    """Letters as a list spells them, as a text."""
    answer = answer_of(text, spell(letters))
    assert answer[0] == len(answer) - 1, "the count of bytes is wrong"
    return bytes(answer[1:]).decode("ascii")


def word_rows(count):
    """Rows of as many words with other letters each."""
    return "".join(f"word a{chr(97 + k)} ;" for k in range(count))


def pattern_rows(count):
    """Rows of as many patterns with other letters each."""
    return "".join(f"pattern {chr(97 + k // 20)}1{chr(97 + k % 20)} ;" for k in range(count))


class FaultMixin:
    """Looks at what is answered of one text, as the only call of a line."""

    def fault(self, text, code, place):
        self.assertEqual(run(load(text)), [[0, code, place]], text)

    def fault_at(self, text, code):
        """The fault's place is where the sign @ stands in text; it is taken out."""
        self.assertEqual(text.count("@"), 1)
        self.fault(text.replace("@", ""), code, text.index("@"))

    def right(self, text, words, patterns):
        self.assertEqual(run(load(text)), [[1, words, patterns]], text)
