"""part: a listed word's parted gaps, its hits, faults and misses (promise 4)."""

import unittest

from helper import MOST, WORKED, answer_of, levels_of, load, part, parts_of, run, word_rows


class Worked(unittest.TestCase):
    def test_the_worked_example(self):
        self.assertEqual(answer_of(WORKED, part(2)), [1, 2, 1, 0, 0])
        self.assertEqual(answer_of(WORKED, part(0)), [1, 2, 1, 0, 0])
        self.assertEqual(answer_of(WORKED, part(1)), [1, 2, 1, 0, 0])


class HitsFaultsMisses(unittest.TestCase):
    def part(self, text, i, gaps, hits, faults, misses):
        self.assertEqual(answer_of(text, part(i)), [len(gaps)] + gaps + [hits, faults, misses], text)

    def test_one_of_each(self):
        self.part("margins 0 0 ; word a-b ; pattern a1b ;", 0, [1], 1, 0, 0)
        self.part("margins 0 0 ; word ab ; pattern a1b ;", 0, [1], 0, 1, 0)
        self.part("margins 0 0 ; word a-b ; pattern a2b ;", 0, [], 0, 0, 1)
        self.part("margins 0 0 ; word ab ; pattern a2b ;", 0, [], 0, 0, 0)

    def test_without_patterns(self):
        self.part("margins 2 2 ; word ta-ble ;", 0, [], 0, 0, 1)
        self.part("margins 2 2 ; word table ;", 0, [], 0, 0, 0)
        self.part("margins 0 0 ; word t-a-b-l-e ;", 0, [], 0, 0, 4)

    def test_several_of_each(self):
        text = "margins 1 1 ; word a-b-cde-f-gh ; pattern a1b ; pattern c1d1e ; pattern e1f ; pattern f2g ;"
        self.part(text, 0, [1, 3, 4, 5], 2, 2, 2)

    def test_hyphens_outside_the_margins_are_no_misses(self):
        self.part("margins 2 2 ; word t-able ;", 0, [], 0, 0, 0)
        self.part("margins 2 2 ; word tabl-e ;", 0, [], 0, 0, 0)
        self.part("margins 2 2 ; word t-a-b-l-e ;", 0, [], 0, 0, 2)
        self.part("margins 5 5 ; word t-a-b-l-e ;", 0, [], 0, 0, 0)
        self.part("margins 3 1 ; word t-a-b-l-e ;", 0, [], 0, 0, 2)
        self.part("margins 1 3 ; word t-a-b-l-e ;", 0, [], 0, 0, 2)

    def test_odd_levels_outside_the_margins_are_no_hits_and_no_faults(self):
        rows = " pattern t1a1b1l1e ;"
        self.part("margins 2 2 ; word t-abl-e ;" + rows, 0, [2, 3], 0, 2, 0)
        self.part("margins 2 2 ; word t-a-b-l-e ;" + rows, 0, [2, 3], 2, 0, 0)
        self.part("margins 5 5 ; word t-a-b-l-e ;" + rows, 0, [], 0, 0, 0)
        self.part("margins 0 0 ; word t-a-b-l-e ;" + rows, 0, [1, 2, 3, 4], 4, 0, 0)
        self.part("margins 0 4 ; word t-a-b-l-e ;" + rows, 0, [1], 1, 0, 0)
        self.part("margins 4 0 ; word ta-ble ;" + rows, 0, [4], 0, 1, 0)

    def test_the_word_that_is_asked_for(self):
        text = "margins 0 0 ; word ab ; word a-c ; word ad ; pattern a1b ; pattern a1d ;"
        self.part(text, 0, [1], 0, 1, 0)
        self.part(text, 1, [], 0, 0, 1)
        self.part(text, 2, [1], 0, 1, 0)
        found = run(load(text), part(2), part(1), part(0))
        self.assertEqual(found[1:], [[1, 1, 0, 1, 0], [0, 0, 0, 1], [1, 1, 0, 1, 0]])

    def test_what_hits_faults_and_misses_are_together(self):
        words = ("t-a-b-l-e", "ta-ble", "tab-le", "table", "t-abl-e", "ta-b-le")
        for left in range(6):
            for right in range(6):
                for word in words:
                    text = f"margins {left} {right} ; word {word} ; pattern a1b ; pattern b3l ; pattern tab4 ;"
                    self.together(text, word, left, right)

    def together(self, text, word, left, right):
        gaps, counts = parts_of(text, 0)
        allowed = [len(head.replace("-", "")) for head in
                   [word[:k] for k in range(len(word)) if word[k] == "-"]]
        wanted = [gap for gap in allowed if gap >= left and 5 - gap >= right]
        self.assertEqual(counts[0] + counts[2], len(wanted), text)
        self.assertEqual(counts[0] + counts[1], len(gaps), text)
        self.assertEqual(counts[0], len(set(gaps) & set(wanted)), text)
        self.assertEqual(gaps, levels_of(text, "table")[1], text)


class NoSuchWord(unittest.TestCase):
    def test_below_0_and_behind_the_last(self):
        for i in (-MOST, -1000, -4, -3, -2, -1, 3, 4, 5, 1000, MOST):
            self.assertEqual(answer_of(WORKED, part(i)), [-2], i)

    def test_a_list_without_words(self):
        for i in (-MOST, -1, 0, 1, MOST):
            self.assertEqual(answer_of("margins 2 2 ; pattern a1 ;", part(i)), [-2], i)

    def test_the_last_word_of_a_full_list(self):
        text = "margins 0 0 ;" + word_rows(24)
        self.assertEqual(answer_of(text, part(23)), [0, 0, 0, 0])
        self.assertEqual(answer_of(text, part(24)), [-2])

    def test_a_refusal_changes_nothing(self):
        found = run(load(WORKED), part(0), part(-1), part(3), part(0))
        self.assertEqual(found[2:4], [[-2], [-2]])
        self.assertEqual(found[1], found[4])


if __name__ == "__main__":
    unittest.main()
