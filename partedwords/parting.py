"""Where letters are parted: patterns that fit, levels at gaps, margins."""

from partedwords.tokens import HYPHEN


def fits_at(pattern, letters, place):
    end = place + len(pattern.letters)
    if pattern.at_front and place > 0:
        return False
    if pattern.at_end and end < len(letters):
        return False
    return letters[place:end] == pattern.letters


def fitting_places(pattern, letters):
    """From the first place to the last one."""
    behind_last = len(letters) - len(pattern.letters) + 1
    return [place for place in range(behind_last) if fits_at(pattern, letters, place)]


def gap_levels(patterns, letters):
    """The level at each gap, the gaps before the first and behind the last letter, too."""
    levels = [0] * (len(letters) + 1)
    for pattern in patterns:
        for place in fitting_places(pattern, letters):
            for before, digit in enumerate(pattern.digits):
                levels[place + before] = max(levels[place + before], digit)
    return levels


def digit_at(pattern, place, gap):
    """The digit that a pattern has at a gap where it fits at a place; 0 if it has none there."""
    before = gap - place
    return pattern.digits[before] if 0 <= before < len(pattern.digits) else 0


def bearers(patterns, letters, gap, digit):
    """The patterns' numbers and places that have a digit at a gap, by patterns, then by places."""
    found = []
    for number, pattern in enumerate(patterns):
        for place in fitting_places(pattern, letters):
            if digit_at(pattern, place, gap) == digit:
                found.append((number, place))
    return found


def within_margins(held, gap, length):
    """Whether letters of this length may be parted at a gap at all."""
    return held.left <= gap <= length - held.right


def parted_gaps(held, levels):
    length = len(levels) - 1
    odd = [gap for gap in range(1, length) if levels[gap] % 2 == 1]
    return [gap for gap in odd if within_margins(held, gap, length)]


def parted_of(held, letters):
    """The gaps where a list parts letters."""
    return parted_gaps(held, gap_levels(held.patterns, letters))


def hyphened(letters, gaps):
    """Letters with a hyphen at each of these gaps."""
    written = []
    for before, letter in enumerate(letters):
        if before in gaps:
            written.append(HYPHEN)
        written.append(letter)
    return written


def hits_faults_misses(held, word, parted):
    """How many of each there are when a listed word is parted at these gaps."""
    length = len(word.letters)
    wanted = [gap for gap in word.allowed if within_margins(held, gap, length)]
    hits = len([gap for gap in parted if gap in wanted])
    return [hits, len(parted) - hits, len(wanted) - hits]
