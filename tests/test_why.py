"""why: the pattern that decides at a gap of a listed word (promise 5)."""

import unittest

from helper import MOST, WORKED, answer_of, load, run, why, word_rows


def text_of(words, patterns, margins="0 0"):
    return (f"margins {margins} ;" + "".join(f"word {word} ;" for word in words.split())
            + "".join(f"pattern {pattern} ;" for pattern in patterns.split()))


class WhyMixin:
    def why(self, text, i, g, *expected):
        self.assertEqual(answer_of(text, why(i, g)), list(expected), (text, i, g))

    def gaps(self, words, patterns, *expected):
        """What is answered at each gap of the first word."""
        text = text_of(words, patterns)
        for g, answer in enumerate(expected, start=1):
            self.why(text, 0, g, *answer)
        self.why(text, 0, len(expected) + 1, -3)


class Worked(WhyMixin, unittest.TestCase):
    def test_the_worked_example(self):
        self.why(WORKED, 2, 2, 1, 2, 0, 3)
        self.why(WORKED, 0, 3, 1, 1, 1, 2)
        self.why(WORKED, 0, 1, 0)

    def test_the_other_gaps_of_the_worked_example(self):
        self.why(WORKED, 0, 2, 1, 0, 1, 1)
        self.why(WORKED, 0, 4, 0)
        self.why(WORKED, 2, 1, 1, 0, 0, 1)
        self.why(WORKED, 2, 3, 0)


class Decides(WhyMixin, unittest.TestCase):
    def test_level_0(self):
        self.gaps("able", "", [0], [0], [0])
        self.gaps("able", "x1y a1c .b1l ab1l.", [0], [0], [0])

    def test_the_first_of_several_patterns_with_the_level(self):
        self.gaps("xaby", "a3b 3b a3by", [0], [1, 0, 1, 3], [0])
        self.gaps("xaby", "3b a3b a3by", [0], [1, 0, 2, 3], [0])
        self.gaps("xaby", "q1 a3by 3b a3b", [0], [1, 1, 1, 3], [0])
        self.gaps("ab", "a1 1b a1b .a1b. .a1b a1b.", [1, 0, 0, 1])

    def test_an_earlier_pattern_with_a_smaller_digit(self):
        self.gaps("xaby", "a1b xa2b a3by 3b", [0], [1, 2, 1, 3], [0])
        self.gaps("xaby", "1aby xa2b 4b", [1, 0, 1, 1], [1, 2, 2, 4], [0])

    def test_a_later_pattern_with_a_smaller_digit(self):
        self.gaps("xaby", "a3by 1b xa2b", [0], [1, 0, 1, 3], [0])

    def test_an_earlier_pattern_with_a_greater_digit_that_does_not_fit(self):
        self.gaps("xaby", ".a9b a9b. b9y. a1b", [0], [1, 3, 1, 1], [1, 2, 2, 9])
        self.gaps("xaby", "c9b a9c a9byz za9b a1b", [0], [1, 4, 1, 1], [0])

    def test_a_pattern_that_covers_the_gap_without_a_digit_there(self):
        self.gaps("abcd", "ab1cd a5bc", [1, 1, 0, 5], [1, 0, 0, 1], [0])
        self.gaps("abcd", "1abcd1 a5bc", [1, 1, 0, 5], [0], [0])

    def test_the_first_of_several_places_with_the_level(self):
        self.gaps("aaaa", "1aa1", [1, 0, 1, 1], [1, 0, 0, 1], [1, 0, 1, 1])
        self.gaps("aaaa", "1a1", [1, 0, 0, 1], [1, 0, 1, 1], [1, 0, 2, 1])
        self.gaps("aaaa", "1aaa1 1a1a", [1, 0, 1, 1], [1, 1, 1, 1], [1, 0, 0, 1])
        self.gaps("aaaaaa", "1aaa1", *[[1, 0, place, 1] for place in (1, 2, 0, 1, 2)])

    def test_an_earlier_place_with_a_smaller_digit(self):
        self.gaps("aaaa", "2a1", [1, 0, 1, 2], [1, 0, 2, 2], [1, 0, 3, 2])
        self.gaps("aaaa", "3aa2a1a", [0], [1, 0, 0, 2], [1, 0, 0, 1])
        self.gaps("aaaaa", "a3a2a1", [1, 0, 0, 3], [1, 0, 1, 3], [1, 0, 2, 3], [1, 0, 2, 2])

    def test_an_earlier_place_where_the_pattern_has_no_digit(self):
        self.gaps("aaaa", "3aa", [1, 0, 1, 3], [1, 0, 2, 3], [0])
        self.gaps("aaaa", "a1aa", [1, 0, 0, 1], [1, 0, 1, 1], [0])

    def test_a_later_place_of_an_earlier_pattern_stands_first(self):
        self.gaps("aaaa", "3a a3a", [1, 0, 1, 3], [1, 0, 2, 3], [1, 0, 3, 3])
        self.gaps("abab", "2b a2b", [1, 0, 1, 2], [0], [1, 0, 3, 2])

    def test_digits_at_the_outer_gaps_of_a_pattern(self):
        self.gaps("xaby", "7ab", [1, 0, 1, 7], [0], [0])
        self.gaps("xaby", "ab7", [0], [0], [1, 0, 1, 7])
        self.gaps("xaby", "7a", [1, 0, 1, 7], [0], [0])
        self.gaps("xaby", "a7", [0], [1, 0, 1, 7], [0])
        self.gaps("xaby", "6b 7ab a7", [1, 1, 1, 7], [1, 2, 1, 7], [0])
        self.gaps("abc", "9a b9c9 c9", [0], [1, 1, 1, 9])

    def test_points(self):
        self.gaps("abab", ".a1b", [1, 0, 0, 1], [0], [0])
        self.gaps("abab", "a1b.", [0], [0], [1, 0, 2, 1])
        self.gaps("abab", ".a1b. a1b", [1, 1, 0, 1], [0], [1, 1, 2, 1])
        self.gaps("abab", ".a2b a2b a2b.", [1, 0, 0, 2], [0], [1, 1, 2, 2])
        self.gaps("abab", "a2b. a2b .a2b", [1, 1, 0, 2], [0], [1, 0, 2, 2])
        self.gaps("abab", ".ab1 1ab.", [0], [1, 0, 0, 1], [0])
        self.gaps("abab", "1ab. .ab1", [0], [1, 0, 2, 1], [0])
        self.gaps("ab", ".a1b.", [1, 0, 0, 1])

    def test_every_digit(self):
        for digit in range(1, 10):
            self.gaps("xaby", f"a{digit}b", [0], [1, 0, 1, digit], [0])

    def test_even_levels_are_told_like_odd_ones(self):
        self.gaps("xaby", "a1b 4b", [0], [1, 1, 2, 4], [0])
        self.gaps("xaby", "a8b a7by", [0], [1, 0, 1, 8], [0])

    def test_gaps_outside_the_margins(self):
        for margins in ("5 5", "2 2", "5 0", "0 5"):
            text = text_of("table a-b", "1a a1b", margins)
            self.why(text, 0, 1, 1, 0, 1, 1)
            self.why(text, 0, 2, 1, 1, 1, 1)
            self.why(text, 0, 4, 0)
            self.why(text, 1, 1, 1, 1, 0, 1)

    def test_where_the_word_may_be_parted_has_no_part_in_it(self):
        for word in ("able", "a-b-l-e", "ab-le"):
            self.gaps(word, "a1b b2l", [1, 0, 0, 1], [1, 1, 1, 2], [0])

    def test_the_word_that_is_asked_for(self):
        text = text_of("ab xab cd", "a1b")
        self.why(text, 0, 1, 1, 0, 0, 1)
        self.why(text, 1, 1, 0)
        self.why(text, 1, 2, 1, 0, 1, 1)
        self.why(text, 2, 1, 0)

    def test_the_last_gap_of_the_longest_word_and_the_last_pattern(self):
        patterns = " ".join(f"a{chr(97 + k // 20)}1{chr(97 + k % 20)}" for k in range(39)) + " 9z."
        self.why(text_of("mmmmmmmmmmmmmmmz", patterns), 0, 15, 1, 39, 15, 9)
        self.why(text_of("mmmmmmmmmmmmmmmz", patterns), 0, 16, -3)


class Refusals(WhyMixin, unittest.TestCase):
    WRONG = (-MOST, -1000, -3, -2, -1, 3, 4, 1000, MOST)

    def test_no_such_word_whatever_the_gap(self):
        for i in self.WRONG:
            for g in (-MOST, -1, 0, 1, 2, 4, 5, 100, MOST):
                self.why(WORKED, i, g, -2)

    def test_a_list_without_words(self):
        for i in (-MOST, -1, 0, 1, MOST):
            for g in (-MOST, 0, 1, MOST):
                self.why("margins 0 0 ; pattern a1b ;", i, g, -2)

    def test_a_full_list(self):
        text = "margins 0 0 ;" + word_rows(24) + "pattern 1x ;"
        self.why(text, 23, 1, 1, 0, 1, 1)
        self.why(text, 23, 2, -3)
        self.why(text, 24, 1, -2)

    def test_no_such_gap_between_two_letters(self):
        for i, length in ((0, 5), (1, 5), (2, 4)):
            for g in (-MOST, -1000, -length, -2, -1, 0, length, length + 1, 1000, MOST):
                self.why(WORKED, i, g, -3)

    def test_outer_gaps_with_a_digit(self):
        text = text_of("ab", "9a b9 .9ab9.")
        self.why(text, 0, 0, -3)
        self.why(text, 0, 1, 0)
        self.why(text, 0, 2, -3)

    def test_hyphens_are_not_counted(self):
        text = text_of("a-b-c-d", "c1d")
        self.why(text, 0, 3, 1, 0, 2, 1)
        for g in (4, 5, 6, 7):
            self.why(text, 0, g, -3)

    def test_a_refusal_changes_nothing(self):
        found = run(load(WORKED), why(0, 3), why(3, 0), why(0, 0), why(0, 3))
        self.assertEqual(found[1:], [[1, 1, 1, 2], [-2], [-3], [1, 1, 1, 2]])


if __name__ == "__main__":
    unittest.main()
