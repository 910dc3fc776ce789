"""spell: letters with a hyphen wherever they are parted (promise 3)."""

import itertools
import unittest

from helper import WORKED, answer_of, levels_of, load, run, spell, spelt


class Spell(unittest.TestCase):
    def spell(self, text, letters, expected):
        self.assertEqual(spelt(text, letters), expected, text)

    def test_the_worked_example(self):
        self.assertEqual(answer_of(WORKED, spell("stable")), [7, 115, 116, 97, 45, 98, 108, 101])

    def test_no_parted_gap(self):
        self.spell("margins 0 0 ;", "table", "table")
        self.spell("margins 0 0 ; pattern x1y ; pattern a2b ;", "table", "table")
        self.assertEqual(answer_of("margins 0 0 ;", spell("ab")), [2, 97, 98])

    def test_one_parted_gap(self):
        self.spell("margins 0 0 ; pattern a1b ;", "table", "ta-ble")
        self.spell("margins 0 0 ; pattern a1b ;", "ab", "a-b")
        self.spell("margins 0 0 ; pattern t1 ;", "table", "t-able")
        self.spell("margins 0 0 ; pattern 1e ;", "table", "tabl-e")

    def test_every_gap(self):
        self.spell("margins 0 0 ; pattern 1a ;", "a" * 16, "-".join("a" * 16))
        self.spell("margins 1 1 ; pattern t1a1b1l1e ;", "table", "t-a-b-l-e")
        self.assertEqual(answer_of("margins 0 0 ; pattern 1a ;", spell("a" * 16))[0], 31)

    def test_outer_gaps_have_no_hyphen(self):
        self.spell("margins 0 0 ; pattern 1table1 ;", "table", "table")
        self.spell("margins 0 0 ; pattern .9ab9. ;", "ab", "ab")

    def test_at_odd_levels_alone(self):
        for digit in range(1, 10):
            expected = "ta-ble" if digit % 2 == 1 else "table"
            self.spell(f"margins 0 0 ; pattern a{digit}b ;", "table", expected)
        self.spell("margins 0 0 ; pattern a1b ; pattern 2bl ;", "table", "table")
        self.spell("margins 0 0 ; pattern a1b ; pattern 2bl ; pattern ta3 ;", "table", "ta-ble")

    def test_margins(self):
        rows = " ; pattern t1a1b1l1e ;"
        self.spell("margins 2 2" + rows, "table", "ta-b-le")
        self.spell("margins 3 0" + rows, "table", "tab-l-e")
        self.spell("margins 0 3" + rows, "table", "t-a-ble")
        self.spell("margins 3 2" + rows, "table", "tab-le")

    def test_margins_that_leave_no_gap(self):
        rows = " ; pattern t1a1b1l1e ;"
        for margins in ("5 0", "0 5", "5 5", "3 3"):
            self.spell(f"margins {margins}" + rows, "table", "table")

    def test_letters_that_are_not_listed(self):
        text = "margins 0 0 ; word ab-le ; word t-able ; pattern a1b ; pattern .b1l ;"
        self.spell(text, "cab", "ca-b")
        self.spell(text, "blab", "b-la-b")
        self.spell(text, "table", "ta-ble")
        self.spell(text, "zz", "zz")

    def test_hyphens_of_the_listed_words_have_no_part_in_it(self):
        self.spell("margins 0 0 ; word t-a-b-l-e ;", "table", "table")
        self.spell("margins 0 0 ; word table ; pattern a1b ;", "table", "ta-ble")

    def test_points(self):
        self.spell("margins 0 0 ; pattern .a1b ;", "abab", "a-bab")
        self.spell("margins 0 0 ; pattern a1b. ;", "abab", "aba-b")
        self.spell("margins 0 0 ; pattern .a1b. ;", "abab", "abab")
        self.spell("margins 0 0 ; pattern .a1b. ;", "ab", "a-b")

    def test_just_where_levels_tells_them_parted(self):
        patterns = ("a1b", "b2a", "aa1b", ".b3", "1b.", "2aba", "bb5b", "a4.")
        for count, (left, right) in itertools.product(range(9), ((0, 0), (2, 1), (1, 3))):
            text = f"margins {left} {right} ;" + "".join(f"pattern {one} ;" for one in patterns[:count])
            for letters in map("".join, itertools.product("ab", repeat=5)):
                parted = levels_of(text, letters)[1]
                ends = [0] + parted + [5]
                self.spell(text, letters, "-".join(letters[a:b] for a, b in zip(ends, ends[1:])))


class NoLetters(unittest.TestCase):
    def test_2_and_16_letters(self):
        self.assertEqual(answer_of(WORKED, spell("zz")), [2, 122, 122])
        self.assertEqual(answer_of(WORKED, spell("z" * 16)), [16] + [122] * 16)

    def test_other_counts(self):
        for count in (0, 1, 17, 18, 40, 4096, 4097, 8192):
            self.assertEqual(answer_of(WORKED, spell("a" * count)), [-4], count)

    def test_bytes_that_are_no_small_letters(self):
        for byte in range(256):
            for row in ([byte, 97, 98], [97, byte, 98], [97, 98, byte], [byte, byte], [byte] * 16):
                right = 97 <= byte <= 122
                self.assertEqual(answer_of("margins 2 2 ;", spell(row)), [len(row)] + row if right else [-4])

    def test_a_hyphen_and_a_point(self):
        for letters in ("ta-ble", "-table", "table-", "--", "ta.ble", ".table", "ta1ble", "ta ble", "TABLE"):
            self.assertEqual(answer_of(WORKED, spell(letters)), [-4], letters)

    def test_a_refusal_changes_nothing(self):
        found = run(load(WORKED), spell("ab"), spell("a"), spell("a-b"), spell("table"))
        self.assertEqual(found[2:4], [[-4], [-4]])
        self.assertEqual(bytes(found[4][1:]), b"ta-ble")


if __name__ == "__main__":
    unittest.main()
