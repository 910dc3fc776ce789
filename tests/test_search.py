"""Promises 1 to 6 looked for over many lists, in a way of the tests' own."""

import unittest

from helper import (answers_of, fits, form_of, levels, levels_of, load, part, run, score, shown, spell,
                    why)


class Strewn:
    """Numbers without a plain order, the same ones each time."""

    def __init__(self, start):
        self.last = start

    def below(self, bound):
        self.last = (self.last * 6364136223846793005 + 1442695040888963407) % 2 ** 64
        return (self.last >> 33) % bound

    def letters(self, fewest, most):
        count = fewest + self.below(most - fewest + 1)
        return "".join("aab"[self.below(3)] for _ in range(count))


def strewn_word(strewn):
    letters = strewn.letters(2, 7)
    return letters[0] + "".join(("-" if strewn.below(3) == 0 else "") + letter for letter in letters[1:])


def strewn_pattern(strewn):
    letters = strewn.letters(1, 4)
    digits = [strewn.below(7) if strewn.below(3) == 0 else 0 for _ in range(len(letters) + 1)]
    if max(digits) == 0:
        digits[strewn.below(len(digits))] = 1 + strewn.below(9)
    signs = [str(digit) if digit else "" for digit in digits]
    chunk = signs[0] + "".join(letter + sign for letter, sign in zip(letters, signs[1:]))
    return "." * (strewn.below(5) == 0) + chunk + "." * (strewn.below(5) == 0)


def plain(chunk):
    """A pattern's letters and points, without its digits."""
    return "".join(sign for sign in chunk if not sign.isdigit())


def differing(chunks, plain_of):
    """Of the chunks that have something in common the first alone."""
    kept = {}
    for chunk in chunks:
        kept.setdefault(plain_of(chunk), chunk)
    return list(kept.values())


def letters_of(word):
    return word.replace("-", "")


class Listed:
    """A list's margins, words and patterns, and its text."""

    def __init__(self, start):
        strewn = Strewn(start)
        self.margins = (strewn.below(4), strewn.below(4))
        self.words = differing([strewn_word(strewn) for _ in range(strewn.below(9))], letters_of)
        self.patterns = differing([strewn_pattern(strewn) for _ in range(strewn.below(13))], plain)
        rows = [f"margins {self.margins[0]} {self.margins[1]}"]
        rows += [f"word {word}" for word in self.words] + [f"pattern {chunk}" for chunk in self.patterns]
        self.text = "".join(row + " ;\n" for row in rows)


LISTS = [Listed(start) for start in range(250)]


def stands(chunk, letters, place):
    """Whether a pattern fits at a place: its points are looked for like letters, around the word."""
    start = place if chunk.startswith(".") else place + 1
    return place < len(letters) and ("." + letters + ".").startswith(plain(chunk), start)


def digit_of(chunk, before):
    """A pattern's digit behind as many of its letters, 0 if none stands there."""
    seen = 0
    for sign in chunk.strip("."):
        if not sign.isdigit():
            seen += 1
        elif seen == before:
            return int(sign)
    return 0


def digits_at(listed, letters, gap):
    """The digit of each pattern and place at a gap, by patterns, then by places."""
    return [(number, place, digit_of(chunk, gap - place))
            for number, chunk in enumerate(listed.patterns)
            for place in range(len(letters)) if stands(chunk, letters, place)]


def told(listed, calls):
    return dict(zip(map(tuple, calls), answers_of(listed.text, calls)))


class TheLists(unittest.TestCase):
    def test_they_are_right_and_differ(self):
        for listed in LISTS:
            counts = [1, len(listed.words), len(listed.patterns)]
            self.assertEqual(run(load(listed.text)), [counts], listed.text)
        self.assertEqual(len({listed.text for listed in LISTS}), len(LISTS))
        self.assertTrue(any(not listed.words for listed in LISTS))
        self.assertTrue(any(not listed.patterns for listed in LISTS))


class Why(unittest.TestCase):
    def test_the_pattern_told_fits_there_and_has_the_level(self):
        """Promise 5, and that no earlier pattern and no earlier place has the level."""
        seen = {"zero": 0, "later pattern": 0, "later place": 0, "even": 0, "several": 0}
        for listed in LISTS:
            for i, word in enumerate(listed.words):
                letters = letters_of(word)
                calls = [why(i, g) for g in range(1, len(letters))]
                found_levels = levels_of(listed.text, letters)[0]
                for g, answer in enumerate(answers_of(listed.text, calls), start=1):
                    self.decided(listed, letters, g, answer, found_levels[g - 1], seen)
        # The lists have to bring what the search is there for, often enough.
        self.assertGreater(min(seen.values()), 100, seen)

    def decided(self, listed, letters, g, answer, level, seen):
        digits = digits_at(listed, letters, g)
        if level == 0:
            self.assertEqual(answer, [0])
            self.assertFalse(any(digit for number, place, digit in digits))
            seen["zero"] += 1
            return
        self.assertEqual((answer[0], answer[3], len(answer)), (1, level, 4))
        number, place = answer[1:3]
        self.assertTrue(stands(listed.patterns[number], letters, place))
        self.assertEqual(digit_of(listed.patterns[number], g - place), level)
        self.assertEqual(max(digit for other, at, digit in digits), level)
        for other, at, digit in digits:
            if (other, at) < (number, place):
                self.assertLess(digit, level, (listed.text, letters, g))
        seen["later pattern"] += any(0 < digit and other < number for other, at, digit in digits)
        seen["later place"] += any(other == number and at < place for other, at, digit in digits)
        seen["even"] += level % 2 == 0
        seen["several"] += [digit for other, at, digit in digits].count(level) > 1

    def test_it_is_a_place_that_fits_tells(self):
        for listed in LISTS:
            asked = told(listed, [fits(p) for p in range(len(listed.patterns))])
            calls = [why(i, g) for i, word in enumerate(listed.words) for g in range(1, len(letters_of(word)))]
            for call, answer in told(listed, calls).items():
                if answer != [0]:
                    pairs = asked[(6, answer[1])][1:]
                    self.assertIn((call[1], answer[2]), list(zip(pairs[::2], pairs[1::2])))


class Fits(unittest.TestCase):
    def test_all_places_and_no_others(self):
        for listed in LISTS:
            asked = told(listed, [fits(p) for p in range(len(listed.patterns))])
            for p, chunk in enumerate(listed.patterns):
                expected = [(i, place) for i, word in enumerate(listed.words)
                            for place in range(17) if stands(chunk, letters_of(word), place)]
                flat = [number for pair in expected for number in pair]
                self.assertEqual(asked[(6, p)], [len(expected)] + flat, (listed.text, p))


class PartAndScore(unittest.TestCase):
    def test_hits_faults_and_misses(self):
        """Promise 4, of every word and of all together."""
        seen = [0, 0, 0, 0]
        for listed in LISTS:
            answered = answers_of(listed.text, [part(i) for i in range(len(listed.words))])
            together = [0, 0, 0, 0]
            for word, answer in zip(listed.words, answered):
                counts = self.counted(listed, word, answer)
                together = [a + b for a, b in zip(together, [counts[1] + counts[2] == 0] + counts)]
            self.assertEqual(answers_of(listed.text, [score()]), [together], listed.text)
            seen = [a + b for a, b in zip(seen, together)]
        self.assertGreater(min(seen), 100)

    def counted(self, listed, word, answer):
        letters = letters_of(word)
        gaps = answer[1:answer[0] + 1]
        counts = answer[answer[0] + 1:]
        left, right = listed.margins
        wanted = [gap for gap in range(left, len(letters) - right + 1)
                  if gap in [len(letters_of(word[:k])) for k, sign in enumerate(word) if sign == "-"]]
        self.assertEqual(gaps, levels_of(listed.text, letters)[1])
        self.assertEqual(counts[0], len(set(gaps) & set(wanted)))
        self.assertEqual(counts[0] + counts[2], len(wanted))
        self.assertEqual(counts[0] + counts[1], len(gaps))
        return counts


class LevelsAndSpell(unittest.TestCase):
    def test_levels_and_where_letters_are_parted(self):
        """Promises 1 and 3, of letters that are listed and of letters that are not."""
        for start, listed in enumerate(LISTS):
            strewn = Strewn(start + 1000)
            asked = [letters_of(word) for word in listed.words] + [strewn.letters(2, 16) for _ in range(3)]
            for letters in asked:
                self.looked_at(listed, letters)

    def looked_at(self, listed, letters):
        found, parted = levels_of(listed.text, letters)
        inner = range(1, len(letters))
        expected = [max([0] + [digit for number, place, digit in digits_at(listed, letters, gap)])
                    for gap in inner]
        self.assertEqual(found, expected, (listed.text, letters))
        left, right = listed.margins
        odd = [gap for gap in inner if expected[gap - 1] % 2 and gap >= left and len(letters) - gap >= right]
        self.assertEqual(parted, odd)
        written = "".join("-" * (k in parted) + letter for k, letter in enumerate(letters))
        self.assertEqual(answers_of(listed.text, [spell(letters)]), [[len(written), *written.encode()]])


class OneForm(unittest.TestCase):
    def test_it_answers_all_calls_alike(self):
        """Promise 6."""
        for listed in LISTS[:120]:
            crooked = "#head\n" + listed.text.replace(" ", "\t\n").replace(";", "# row\n ;#end")
            form = form_of(crooked)
            self.assertEqual(form, listed.text)
            words = range(-1, len(listed.words) + 1)
            asked = [shown(), score(), levels("abababaab"), spell("abababaab"), levels(""), spell("-")]
            asked += [part(i) for i in words] + [why(i, g) for i in words for g in range(-1, 9)]
            asked += [fits(p) for p in range(-1, len(listed.patterns) + 1)]
            self.assertEqual(run(load(form)), run(load(crooked)))
            self.assertEqual(answers_of(form, asked), answers_of(crooked, asked))


class OrderAndMore(unittest.TestCase):
    def test_patterns_added_and_turned_round(self):
        """Promise 2: no level is less for a pattern more, and the order changes none."""
        for listed in LISTS[:120]:
            head = "margins 0 0 ;"
            rows = [f"pattern {chunk} ;" for chunk in listed.patterns]
            for letters in ("abaabab", "baab", "aaaa"):
                before = [0] * (len(letters) - 1)
                for count in range(len(rows) + 1):
                    after = levels_of(head + "".join(rows[:count]), letters)[0]
                    self.assertTrue(all(one >= other for one, other in zip(after, before)))
                    before = after
                turned = levels_of(head + "".join(rows[::-1]), letters)[0]
                self.assertEqual(turned, before)


if __name__ == "__main__":
    unittest.main()
