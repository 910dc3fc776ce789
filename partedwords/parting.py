"""Where letters are parted: patterns that fit, levels at gaps, margins."""


def fits_at(pattern, letters, place):
    end = place + len(pattern.letters)
    if pattern.at_front and place > 0:
        return False
    if pattern.at_end and end < len(letters):
        return False
    return letters[place:end] == pattern.letters


def fitting_places(pattern, letters):
    """From the first place to the last one."""
    behind_last = len(letters) - len(pattern.letters) + 1
    return [place for place in range(behind_last) if fits_at(pattern, letters, place)]


def gap_levels(patterns, letters):
    """The level at each gap, the gaps before the first and behind the last letter, too."""
    levels = [0] * (len(letters) + 1)
    for pattern in patterns:
        for place in fitting_places(pattern, letters):
            for before, digit in enumerate(pattern.digits):
                levels[place + before] = max(levels[place + before], digit)
    return levels


def within_margins(held, gap, length):
    """Whether letters of this length may be parted at a gap at all."""
    return held.left <= gap <= length - held.right


def parted_gaps(held, levels):
    length = len(levels) - 1
    odd = [gap for gap in range(1, length) if levels[gap] % 2 == 1]
    return [gap for gap in odd if within_margins(held, gap, length)]


def hits_faults_misses(held, word, parted):
    """How many of each there are when a listed word is parted at these gaps."""
    length = len(word.letters)
    wanted = [gap for gap in word.allowed if within_margins(held, gap, length)]
    hits = len([gap for gap in parted if gap in wanted])
    return [hits, len(parted) - hits, len(wanted) - hits]
