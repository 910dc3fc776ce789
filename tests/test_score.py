"""score: exact words, and all words' hits, faults and misses together (promise 4)."""

import itertools
import unittest

from helper import WORKED, answer_of, answers_of, load, part, pattern_rows, run, score, word_rows


def summed(text, words):
    """What score has to answer, from what part answers of each word."""
    counts = [answer[-3:] for answer in answers_of(text, [part(i) for i in range(words)])]
    exact = sum(1 for hits, faults, misses in counts if faults + misses == 0)
    return [exact] + [sum(count[k] for count in counts) for k in range(3)]


class Score(unittest.TestCase):
    def score(self, text, exact, hits, faults, misses):
        self.assertEqual(answer_of(text, score()), [exact, hits, faults, misses], text)

    def test_the_worked_example(self):
        self.score(WORKED, 3, 3, 0, 0)

    def test_without_words(self):
        self.score("margins 2 2 ;", 0, 0, 0, 0)
        self.score("margins 0 0 ; pattern a1b ; pattern 9x ;", 0, 0, 0, 0)

    def test_without_patterns(self):
        self.score("margins 0 0 ; word ta-ble ; word able ;", 1, 0, 0, 1)
        self.score("margins 0 0 ; word t-a-b-l-e ; word ca-b-le ;", 0, 0, 0, 6)
        self.score("margins 0 0 ; word table ; word able ;", 2, 0, 0, 0)

    def test_words_that_may_be_parted_nowhere(self):
        self.score("margins 0 0 ; word ab ; word cd ; pattern x1y ;", 2, 0, 0, 0)
        self.score("margins 0 0 ; word ab ; word cd ; pattern a1b ;", 1, 0, 1, 0)
        self.score("margins 0 0 ; word ab ; word cd ; pattern 1b ; pattern 1d ;", 0, 0, 2, 0)

    def test_one_word_with_each_kind(self):
        self.score("margins 0 0 ; word a-b ; pattern a1b ;", 1, 1, 0, 0)
        self.score("margins 0 0 ; word ab ; pattern a2b ;", 1, 0, 0, 0)
        self.score("margins 0 0 ; word ab ; pattern a1b ;", 0, 0, 1, 0)
        self.score("margins 0 0 ; word a-b ; pattern a2b ;", 0, 0, 0, 1)
        self.score("margins 0 0 ; word a-bc ; pattern b1c ;", 0, 0, 1, 1)
        self.score("margins 0 0 ; word a-bcd ; pattern a1b1c ;", 0, 1, 1, 0)
        self.score("margins 0 0 ; word a-b-cd ; pattern a1b ;", 0, 1, 0, 1)
        self.score("margins 0 0 ; word a-b-cd ; pattern a1b ; pattern c1d ;", 0, 1, 1, 1)

    def test_faults_and_misses_of_other_words(self):
        rows = "word a-b ; word cd ; word e-f ; word gh ; "
        self.score("margins 0 0 ; " + rows, 2, 0, 0, 2)
        self.score("margins 0 0 ; " + rows + "pattern a1b ;", 3, 1, 0, 1)
        self.score("margins 0 0 ; " + rows + "pattern a1b ; pattern c1d ;", 2, 1, 1, 1)
        self.score("margins 0 0 ; " + rows + "pattern a1b ; pattern e1f ;", 4, 2, 0, 0)
        self.score("margins 0 0 ; " + rows + "pattern c1d ; pattern g1h ;", 0, 0, 2, 2)

    def test_as_many_faults_as_misses_are_not_exact(self):
        self.score("margins 0 0 ; word a-bc ; word x-y-zuv ; pattern b1c ; pattern z1u1v ;", 0, 0, 3, 3)

    def test_hyphens_outside_the_margins_are_no_misses(self):
        self.score("margins 2 2 ; word t-able ; word stabl-e ; word c-abl-e ;", 3, 0, 0, 0)
        self.score("margins 2 2 ; word t-a-b-l-e ;", 0, 0, 0, 2)
        self.score("margins 5 5 ; word t-a-b-l-e ; word a-b ;", 2, 0, 0, 0)
        self.score("margins 2 0 ; word t-abl-e ; word s-able ; word cabl-e ;", 1, 0, 0, 2)
        self.score("margins 0 2 ; word t-abl-e ; word s-able ; word cabl-e ;", 1, 0, 0, 2)

    def test_odd_levels_outside_the_margins_are_no_faults(self):
        rows = "word table ; pattern t1a1b1l1e ;"
        self.score("margins 5 5 ; " + rows, 1, 0, 0, 0)
        self.score("margins 2 2 ; " + rows, 0, 0, 2, 0)
        self.score("margins 0 4 ; " + rows, 0, 0, 1, 0)
        self.score("margins 0 4 ; word t-able ; pattern t1a1b1l1e ;", 1, 1, 0, 0)

    def test_most_words_with_most_hyphens(self):
        words = [chr(97 + k) + "-" + "-".join("m" * 15) for k in range(24)]
        rows = "".join(f"word {word} ;" for word in words)
        self.score("margins 0 0 ;" + rows, 0, 0, 0, 360)
        self.score("margins 0 0 ;" + rows + "pattern 1m ;", 24, 360, 0, 0)
        self.score("margins 0 0 ;" + rows.replace("-", "") + "pattern 1m ;", 0, 0, 360, 0)
        self.score("margins 0 0 ;" + rows.replace("-", ""), 24, 0, 0, 0)
        self.score("margins 5 5 ;" + rows + "pattern 1m ;", 24, 168, 0, 0)

    def test_it_is_what_part_tells_of_every_word(self):
        words = ("ta-ble", "ca-b-le", "able", "t-a", "ab-le-s", "tab-led", "l-e", "be-a-ble")
        patterns = ("a1b", "ab2l", ".ab3", "1le.", "b1l", "e1a", "t5a.", "4b")
        for left, right in itertools.product((0, 1, 2, 3, 5), (0, 1, 2, 5)):
            for count in range(len(patterns) + 1):
                for many in (1, 4, 8):
                    rows = [f"word {word} ;" for word in words[:many]]
                    rows += [f"pattern {pattern} ;" for pattern in patterns[:count]]
                    text = f"margins {left} {right} ;" + "".join(rows)
                    self.score(text, *summed(text, many))

    def test_a_full_list(self):
        text = "margins 0 0 ;" + word_rows(24) + pattern_rows(40)
        self.score(text, *summed(text, 24))
        self.assertEqual(summed(text, 24), [4, 0, 20, 0])


class Calls(unittest.TestCase):
    def test_the_list_that_is_held_alone(self):
        found = run(load(WORKED), score(), load("margins 0 0 ; word a-b ;"), score(), load("?"), score(),
                    load("margins 0 0 ;"), score())
        self.assertEqual(found[1::2], [[3, 3, 0, 0], [0, 0, 0, 1], [0, 0, 0, 1], [0, 0, 0, 0]])

    def test_it_is_told_anew_each_time(self):
        self.assertEqual(run(load(WORKED), score(), part(0), score())[1::2], [[3, 3, 0, 0]] * 2)


if __name__ == "__main__":
    unittest.main()
