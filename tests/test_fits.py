"""fits: the places of listed words where a pattern fits."""

import unittest

from helper import MOST, WORKED, answer_of, fits, load, pattern_rows, run, word_rows


class FitsMixin:
    def fits(self, words, pattern, *expected):
        """Where a pattern fits, as pairs of a word and a place."""
        text = ("margins 2 2 ;" + "".join(f"word {word} ;" for word in words.split())
                + f"pattern q1q ; pattern {pattern} ; pattern q1 ;")
        told = [number for pair in expected for number in pair]
        self.assertEqual(answer_of(text, fits(1)), [len(expected)] + told, (words, pattern))


class Fits(FitsMixin, unittest.TestCase):
    def test_the_worked_example(self):
        self.assertEqual(answer_of(WORKED, fits(0)), [3, 0, 1, 1, 1, 2, 0])
        self.assertEqual(answer_of(WORKED, fits(1)), [3, 0, 1, 1, 1, 2, 0])
        self.assertEqual(answer_of(WORKED, fits(2)), [1, 2, 0])

    def test_nowhere(self):
        self.fits("table able", "x1")
        self.fits("table able", "a1l")
        self.fits("table able", "1el")
        self.fits("table able", ".b1l")
        self.fits("table able", "ab1.")

    def test_by_words_then_by_places(self):
        self.fits("abab baba ab ba", "a1b", (0, 0), (0, 2), (1, 1), (2, 0))
        self.fits("ba ab baba abab", "a1b", (1, 0), (2, 1), (3, 0), (3, 2))
        self.fits("cc ab cd xxab", "a1b", (1, 0), (3, 2))

    def test_several_places_of_a_word(self):
        self.fits("abcabcabc", "a1bc", (0, 0), (0, 3), (0, 6))
        self.fits("abacada", "1a", (0, 0), (0, 2), (0, 4), (0, 6))

    def test_over_itself(self):
        self.fits("aaaa", "a1a", (0, 0), (0, 1), (0, 2))
        self.fits("aaaa", "aaa1", (0, 0), (0, 1))
        self.fits("ababa", "ab1a", (0, 0), (0, 2))
        self.fits("a" * 16, "1a", *[(0, place) for place in range(16)])
        self.fits("a" * 16, "aaa1aaa", *[(0, place) for place in range(11)])

    def test_points(self):
        self.fits("abab", ".a1b", (0, 0))
        self.fits("abab", "a1b.", (0, 2))
        self.fits("abab ab", ".a1b.", (1, 0))
        self.fits("aaaa aa", ".a1", (0, 0), (1, 0))
        self.fits("aaaa aa", "a1.", (0, 3), (1, 1))
        self.fits("aaaa aa", ".a1.")
        self.fits("baba abab", ".a1b", (1, 0))
        self.fits("baba abab", "a1b.", (1, 2))

    def test_a_pattern_as_long_as_a_word_and_a_longer_one(self):
        self.fits("abcdef", "abcdef1", (0, 0))
        self.fits("abcdef", ".1abcdef.", (0, 0))
        self.fits("abcde bcdef", "abcdef1")
        self.fits("ab abc", "ab1c", (1, 0))
        self.fits("ab bc", ".ab1c")
        self.fits("ab bc", "ab1c.")
        self.fits("aa aaa", "aa1a", (1, 0))

    def test_hyphens_have_no_part_in_it(self):
        self.fits("t-a-b-l-e c-able ab-le", "a1b", (0, 1), (1, 1), (2, 0))

    def test_digits_have_no_part_in_it(self):
        for pattern in ("1ab", "a9b", "ab2", "1a2b3"):
            self.fits("xaby abab", pattern, (0, 1), (1, 0), (1, 2))

    def test_a_list_without_words(self):
        self.fits("", "a1b")
        self.fits("", ".a1.")

    def test_each_pattern_of_a_list(self):
        text = "margins 5 5 ; word abc ; word cab ; pattern a1 ; pattern b1 ; pattern ab1 ; pattern .c1 ;"
        found = run(load(text), fits(3), fits(2), fits(1), fits(0))
        self.assertEqual(found[1:], [[1, 1, 0], [2, 0, 0, 1, 1], [2, 0, 1, 1, 2], [2, 0, 0, 1, 1]])

    def test_the_longest_answer(self):
        words = ["a" * count for count in range(2, 17)]
        words += ["b" + "a" * 15, "ab" + "a" * 14]
        pairs = [(number, place) for number, word in enumerate(words)
                 for place in range(len(word)) if word[place] == "a"]
        self.fits(" ".join(words), "1a", *pairs)

    def test_the_last_pattern_of_a_full_list(self):
        text = "margins 0 0 ;" + word_rows(24) + pattern_rows(40)
        self.assertEqual(answer_of(text, fits(39)), [0])
        self.assertEqual(answer_of(text, fits(19)), [1, 19, 0])
        self.assertEqual(answer_of(text, fits(40)), [-2])


class NoSuchPattern(unittest.TestCase):
    def test_below_0_and_behind_the_last(self):
        for p in (-MOST, -1000, -3, -2, -1, 3, 4, 1000, MOST):
            self.assertEqual(answer_of(WORKED, fits(p)), [-2], p)

    def test_a_list_without_patterns(self):
        for p in (-MOST, -1, 0, 1, MOST):
            self.assertEqual(answer_of("margins 2 2 ; word ab ;", fits(p)), [-2], p)

    def test_it_is_patterns_that_are_counted(self):
        text = "margins 0 0 ; word ab ; word cd ; pattern a1 ;"
        self.assertEqual(answer_of(text, fits(1)), [-2])
        text = "margins 0 0 ; word ab ; pattern c1 ; pattern b1 ;"
        self.assertEqual(answer_of(text, fits(1)), [1, 0, 1])

    def test_a_refusal_changes_nothing(self):
        found = run(load(WORKED), fits(2), fits(-1), fits(3), fits(2))
        self.assertEqual(found[1:], [[1, 2, 0], [-2], [-2], [1, 2, 0]])


if __name__ == "__main__":
    unittest.main()
