"""levels: the level at each gap, and where letters are parted (promises 1 to 3)."""

import itertools
import unittest

from helper import WORKED, answer_of, levels, levels_of, load, run

CHUNKS = ("1ab2", ".a4b", "3ab.", ".a4", "4b.", ".b1a.", "a2a", "b5b1", "6a", "2b7a2", ".2bb", "aa3.",
          "a1b2a", "8abab", ".a1b2a3b4.")


def text_of(left, right, chunks):
    return f"margins {left} {right} ;" + "".join(f"pattern {chunk} ;" for chunk in chunks)


def told_levels(chunks, letters):
    """The same in another way: points are looked for like letters, around the word."""
    around = "." + letters + "."
    found = [0] * (len(around) + 1)
    for chunk in chunks:
        plain = "".join(sign for sign in chunk if not sign.isdigit())
        for start in range(len(around)):
            if around.startswith(plain, start):
                at = start
                for sign in chunk:
                    if sign.isdigit():
                        found[at] = max(found[at], int(sign))
                    else:
                        at += 1
    return found[2:-2]


def all_letters(signs, fewest, most):
    for count in range(fewest, most + 1):
        for letters in itertools.product(signs, repeat=count):
            yield "".join(letters)


class Letters(unittest.TestCase):
    def test_2_and_16_letters(self):
        self.assertEqual(answer_of(WORKED, levels("ab")), [1, 1])
        self.assertEqual(answer_of(WORKED, levels("z" * 16)), [15] + [0] * 15)
        self.assertEqual(answer_of(WORKED, levels("abcdefghijklmnop")), [15, 1, 3] + [0] * 13 + [2])

    def test_other_counts(self):
        for count in (0, 1, 17, 18, 40, 4096, 4097, 8192):
            self.assertEqual(answer_of(WORKED, levels("a" * count)), [-4], count)

    def test_bytes_that_are_no_small_letters(self):
        for byte in range(256):
            for row in ([byte, 97, 98], [97, byte, 98], [97, 98, byte], [byte, byte], [byte] * 16):
                right = 97 <= byte <= 122
                answer = answer_of("margins 2 2 ;", levels(row))
                self.assertEqual(answer, [len(row) - 1] + [0] * (len(row) - 1) if right else [-4])

    def test_a_refusal_changes_nothing(self):
        found = run(load(WORKED), levels("table"), levels("TABLE"), levels(""), levels("table"))
        self.assertEqual(found[2:4], [[-4], [-4]])
        self.assertEqual(found[1], found[4])


class Levels(unittest.TestCase):
    def levels(self, chunks, letters, expected):
        self.assertEqual(levels_of(text_of(0, 0, chunks), letters)[0], expected, (chunks, letters))

    def test_no_pattern(self):
        self.levels([], "table", [0, 0, 0, 0])
        self.levels(["x1y", "l1b", ".a1b", "b1l."], "table", [0, 0, 0, 0])

    def test_digits_at_every_kind_of_gap(self):
        self.levels(["1ab"], "xabx", [1, 0, 0])
        self.levels(["a1b"], "xabx", [0, 1, 0])
        self.levels(["ab1"], "xabx", [0, 0, 1])
        self.levels(["2a3b4"], "xabx", [2, 3, 4])
        self.levels(["9x"], "xabx", [0, 0, 9])
        self.levels(["x9"], "xabx", [9, 0, 0])

    def test_outer_gaps_are_not_told(self):
        self.levels(["9a1b9"], "ab", [1])
        self.levels(["9ab9"], "abab", [0, 9, 0])

    def test_the_greatest_digit_wins(self):
        self.levels(["a1b", "ab2x", "xab4", "bx3"], "xabx", [0, 1, 4])
        self.levels(["a1b", "xa3b", "b2x", "a2bx"], "xabx", [0, 3, 2])
        for lesser in range(1, 9):
            self.levels([f"a{lesser}b", "a9bc"], "abc", [9, 0])
            self.levels(["a9b", f"a{lesser}bc"], "abc", [9, 0])

    def test_at_several_places(self):
        self.levels(["a1b"], "ababab", [1, 0, 1, 0, 1])
        self.levels(["1ab2"], "ababab", [0, 2, 0, 2, 0])
        self.levels(["2ab1"], "ababab", [0, 2, 0, 2, 0])

    def test_over_one_another(self):
        self.levels(["a1a2a"], "aaaa", [1, 2, 2])
        self.levels(["a2a1a"], "aaaa", [2, 2, 1])
        self.levels(["a1aa"], "aaaaa", [1, 1, 1, 0])
        self.levels(["1aaaaaa"], "a" * 8, [1, 1, 0, 0, 0, 0, 0])
        self.levels(["a1ba"], "ababa", [1, 0, 1, 0])

    def test_points(self):
        self.levels([".a1b"], "abab", [1, 0, 0])
        self.levels(["a1b."], "abab", [0, 0, 1])
        self.levels([".a1b."], "abab", [0, 0, 0])
        self.levels([".a1b."], "ab", [1])
        self.levels([".a1b"], "ab", [1])
        self.levels(["a1b."], "ab", [1])
        self.levels([".a1b"], "xab", [0, 0])
        self.levels(["a1b."], "abx", [0, 0])
        self.levels([".1ab"], "abab", [0, 0, 0])
        self.levels([".ab1"], "abab", [0, 1, 0])
        self.levels(["1ab."], "abab", [0, 1, 0])
        self.levels([".a2b", "a1b"], "abab", [2, 0, 1])
        self.levels(["a2b.", "a1b"], "abab", [1, 0, 2])

    def test_a_pattern_as_long_as_the_letters_and_a_longer_one(self):
        self.levels(["abcde1f"], "abcdef", [0, 0, 0, 0, 1])
        self.levels(["abcde1f"], "abcde", [0, 0, 0, 0])
        self.levels(["ab1c"], "ab", [0])
        self.levels([".ab1c"], "bc", [0])
        self.levels(["a1bc."], "ab", [0])

    def test_the_patterns_of_the_list_that_is_held_alone(self):
        found = run(load(text_of(0, 0, ["a1b"])), load(text_of(0, 0, ["b2a"])), levels("aba"))
        self.assertEqual(found[2], [2, 0, 2])

    def test_words_have_no_part_in_it(self):
        text = "margins 0 0 ; word a-b ; word abab ; pattern a1b ;"
        self.assertEqual(answer_of(text, levels("abab")), [3, 1, 0, 1, 1, 3])

    def test_against_another_way(self):
        for chunk in CHUNKS:
            for letters in all_letters("ab", 2, 6):
                self.levels([chunk], letters, told_levels([chunk], letters))
        for start in range(len(CHUNKS)):
            chunks = CHUNKS[start:start + 4]
            for letters in all_letters("ab", 2, 7):
                self.levels(chunks, letters, told_levels(chunks, letters))


class OrderAndMore(unittest.TestCase):
    def test_the_order_changes_nothing(self):
        chunks = ("a1b", "2aba3", ".ab4", "b5a.", "b2a1b")
        expected = {}
        for order in itertools.permutations(chunks):
            for letters in ("abab", "baba", "abba", "ababa"):
                found = levels_of(text_of(1, 1, order), letters)
                self.assertEqual(found, expected.setdefault(letters, found))
        self.assertEqual(expected["abab"], ([1, 4, 3], [1, 3]))

    def test_patterns_added_make_no_level_less(self):
        for letters in ("abab", "babab", "aabba", "ab", "aaaaaa", "bbabab"):
            before = [0] * (len(letters) - 1)
            for count in range(len(CHUNKS) + 1):
                after = levels_of(text_of(2, 2, CHUNKS[:count]), letters)[0]
                self.assertTrue(all(a >= b for a, b in zip(after, before)), (letters, count))
                before = after

    def test_each_level_is_a_patterns_digit_and_none_is_greater(self):
        for letters in all_letters("ab", 2, 6):
            alone = [levels_of(text_of(0, 0, [chunk]), letters)[0] for chunk in CHUNKS]
            together = levels_of(text_of(0, 0, CHUNKS), letters)[0]
            self.assertEqual(together, [max(digits) for digits in zip(*alone)])


class Parted(unittest.TestCase):
    def test_the_worked_example(self):
        self.assertEqual(answer_of(WORKED, levels("table")), [4, 0, 1, 2, 0, 2])

    def test_at_odd_levels_alone(self):
        for digit in range(1, 10):
            parted = levels_of(text_of(0, 0, [f"a{digit}b"]), "xabx")[1]
            self.assertEqual(parted, [2] if digit % 2 == 1 else [])

    def test_a_greater_even_digit_forbids_and_a_greater_odd_one_allows(self):
        self.assertEqual(levels_of(text_of(0, 0, ["a1b", "a2bx"]), "xabx"), ([0, 2, 0], []))
        self.assertEqual(levels_of(text_of(0, 0, ["a2b", "a3bx"]), "xabx"), ([0, 3, 0], [2]))

    def test_within_the_margins_alone(self):
        for letters in ("aaaaaa", "aa", "aaaaaaaaaaaaaaaa", "aaaaa"):
            length = len(letters)
            for left in range(6):
                for right in range(6):
                    found = levels_of(text_of(left, right, ["1a"]), letters)
                    self.assertEqual(found[0], [1] * (length - 1))
                    expected = [gap for gap in range(1, length) if gap >= left and length - gap >= right]
                    self.assertEqual(found[1], expected)

    def test_margins_1_and_0_are_alike_between_letters(self):
        for left, right in ((0, 0), (0, 1), (1, 0), (1, 1)):
            found = levels_of(text_of(left, right, ["1a1"]), "aaa")
            self.assertEqual(found, ([1, 1], [1, 2]))

    def test_margins_that_leave_no_gap(self):
        self.assertEqual(levels_of(text_of(5, 5, ["1a"]), "a" * 9), ([1] * 8, []))
        self.assertEqual(levels_of(text_of(5, 5, ["1a"]), "a" * 10), ([1] * 9, [5]))
        self.assertEqual(levels_of(text_of(2, 0, ["1a"]), "aa"), ([1], []))
        self.assertEqual(levels_of(text_of(0, 2, ["1a"]), "aa"), ([1], []))
        self.assertEqual(levels_of(text_of(5, 0, ["1a"]), "aaa"), ([1, 1], []))


if __name__ == "__main__":
    unittest.main()
