"""answers: many calls in one list, and the calls while no list is held."""

import itertools
import unittest

from helper import MOST, WORKED, answer_of, fits, levels, load, part, run, score, shown, spell, why
from partedwords.patterns import answers

# All calls but load, with arguments that a list may take and with others.
ASKED = (shown(), levels("table"), part(0), score(), why(0, 1), fits(0), spell("stable"))
WRONG = (levels(""), levels("A"), levels("a" * 8192), part(-1), part(3), part(MOST), part(-MOST),
         why(0, 0), why(0, 5), why(3, 1), why(-1, -1), why(MOST, 1), why(-MOST, MOST), why(0, -MOST),
         fits(-1), fits(3), fits(MOST), fits(-MOST),
         spell(""), spell("a"), spell("a-b"), spell([0, 1, 2]), spell("a" * 17), spell([255] * 8192))
OTHER = "margins 0 1 ; word a-b ; word tabl-es ; pattern 1b ; pattern ab4. ; pattern bl3e ; pattern 1e ;"


class Worked(unittest.TestCase):
    def test_the_worked_example_number_by_number(self):
        line = load(WORKED) + levels("table") + part(2) + score() + why(2, 2) + why(0, 3) + why(0, 1)
        line += fits(0) + spell("stable")
        self.assertEqual(answers(line), [3, 1, 3, 3] + [6, 4, 0, 1, 2, 0, 2] + [5, 1, 2, 1, 0, 0]
                         + [4, 3, 3, 0, 0] + [4, 1, 2, 0, 3] + [4, 1, 1, 1, 2] + [1, 0]
                         + [7, 3, 0, 1, 1, 1, 2, 0] + [8, 7, 115, 116, 97, 45, 98, 108, 101])

    def test_calls_written_out_as_numbers(self):
        text = [109, 97, 114, 103, 105, 110, 115, 32, 48, 32, 48, 59, 119, 111, 114, 100, 32, 97, 98, 59,
                112, 97, 116, 116, 101, 114, 110, 32, 97, 49, 98, 59]
        line = [0, 32] + text + [4] + [5, 0, 1] + [6, 0] + [7, 2, 97, 98] + [3, 0] + [2, 2, 97, 98]
        self.assertEqual(answers(line), [3, 1, 1, 1] + [4, 0, 0, 1, 0] + [4, 1, 0, 0, 1] + [3, 1, 0, 0]
                         + [4, 3, 97, 45, 98] + [5, 1, 1, 0, 1, 0] + [3, 1, 1, 1])


class NoList(unittest.TestCase):
    def test_every_call_but_load_is_refused(self):
        for call in ASKED + WRONG:
            self.assertEqual(answers(list(call)), [1, -1], call[:3])

    def test_they_are_refused_one_behind_another(self):
        for calls in (ASKED, ASKED[::-1], [call for call in WRONG if len(call) < 8000]):
            self.assertEqual(run(*calls, load(WORKED)), [[-1]] * len(calls) + [[1, 3, 3]])

    def test_none_is_refused_so_behind_a_load_that_was_right(self):
        found = run(shown(), load(WORKED), shown(), levels("A"), part(3), part(0), levels("table"))
        self.assertEqual(found[0], [-1])
        self.assertEqual(found[2][0], len(found[2]) - 1)
        self.assertEqual(found[3:], [[-4], [-2], [1, 2, 1, 0, 0], [4, 0, 1, 2, 0, 2]])

    def test_behind_a_load_that_failed(self):
        found = run(load("margins 2 2"), shown(), levels("a"), part(-1), *ASKED)
        self.assertEqual(found, [[0, 3, 11]] + [[-1]] * 10)

    def test_a_load_that_fails_behind_one_that_was_right(self):
        found = run(load(WORKED), load("?"), load(""), load(" " * 8192), *ASKED)
        self.assertEqual(found[1:4], [[0, 2, 0], [0, 3, 0], [0, 1, 4096]])
        self.assertEqual(found[4:], [answer_of(WORKED, call) for call in ASKED])


class AllInOneLine(unittest.TestCase):
    def test_each_answer_is_the_same_in_whatever_order(self):
        expected = [answer_of(WORKED, call) for call in ASKED]
        for order in itertools.permutations(range(len(ASKED))):
            found = run(load(WORKED), *[ASKED[k] for k in order])
            self.assertEqual(found[1:], [expected[k] for k in order], order)

    def test_refusals_between_them_change_nothing(self):
        refused = [call for call in WRONG if len(call) < 8000]
        for k, call in enumerate(refused):
            asked = [ASKED[(k + step) % len(ASKED)] for step in range(len(ASKED))]
            calls = [one for pair in zip(asked, [call] * len(asked)) for one in pair]
            found = run(load(WORKED), *calls)
            self.assertEqual(found[1::2], [answer_of(WORKED, one) for one in asked])
            self.assertEqual(found[2::2], [answer_of(WORKED, call)] * len(asked))
            self.assertEqual(len(found[2]), 1)
            self.assertLess(found[2][0], 0)

    def test_loads_between_them(self):
        """The list of the last load that was right answers; a load that wasn't changes nothing."""
        loads = (load(WORKED), load(OTHER), load("margins 0 0 ;"), load(OTHER + "word ab ;"), load(""))
        told = ([1, 3, 3], [1, 2, 4], [1, 0, 0], [0, 3, len(OTHER)], [0, 3, 0])
        texts = (WORKED, OTHER, "margins 0 0 ;", None, None)
        expected = {text: [answer_of(text, call) for call in ASKED] for text in texts[:3]}
        for order in itertools.product(range(len(loads)), repeat=3):
            calls = list(ASKED)
            answered = [[-1]] * len(ASKED)
            held = None
            for k in order:
                held = texts[k] or held
                calls += [loads[k], *ASKED]
                answered = answered + [told[k]] + expected.get(held, [[-1]] * len(ASKED))
            self.assertEqual(run(*calls), answered, order)

    def test_what_another_list_answers(self):
        found = run(load(WORKED), *ASKED, load(OTHER), part(0), part(1), score(), why(0, 1), why(1, 2),
                    why(1, 4), why(1, 5), fits(0), fits(3), spell("stable"))
        self.assertEqual(found[8:], [[1, 2, 4], [1, 1, 1, 0, 0], [2, 2, 4, 1, 1, 0], [1, 2, 1, 0],
                                     [1, 0, 1, 1], [1, 0, 2, 1], [1, 2, 2, 3], [0], [2, 0, 1, 1, 2],
                                     [1, 1, 4], [8, 115, 116, 97, 45, 98, 108, 45, 101]])


class ManyCalls(unittest.TestCase):
    def test_1_to_100_calls(self):
        cycle = [*ASKED[1:], part(3), levels("T"), why(0, 5), why(3, 5), fits(3), spell("T")]
        expected = [[4, 0, 1, 2, 0, 2], [1, 2, 1, 0, 0], [3, 3, 0, 0], [0], [3, 0, 1, 1, 1, 2, 0],
                    [7, 115, 116, 97, 45, 98, 108, 101], [-2], [-4], [-3], [-2], [-2], [-4]]
        for count in range(100):
            calls = [cycle[k % 12] for k in range(count)]
            self.assertEqual(run(load(WORKED), *calls), [[1, 3, 3]] + [expected[k % 12] for k in range(count)])

    def test_100_loads(self):
        calls = [load(f"margins {k % 6} {k % 7} ;") for k in range(100)]
        for k, answer in enumerate(run(*calls)):
            self.assertEqual(answer, [1, 0, 0] if k % 7 < 6 else [0, 7, 10])

    def test_a_refusal_has_the_count_1(self):
        self.assertEqual(answers([1]), [1, -1])
        line = load("margins 0 0 ;") + part(0) + levels("a") + levels("ab") + why(0, 0) + fits(0) + spell("a")
        self.assertEqual(answers(line), [3, 1, 0, 0, 1, -2, 1, -4, 2, 1, 0, 1, -2, 1, -2, 1, -4])
        self.assertEqual(answers(load("margins 0 0;word ab;") + why(0, 2)), [3, 1, 1, 0, 1, -3])

    def test_rows_that_look_like_calls(self):
        line = load("margins 0 0 ;") + [2, 3, 1, 1, 1] + [2, 0] + [3, 1] + [0, 1, 1] + [1]
        self.assertEqual(answers(line)[:11], [3, 1, 0, 0, 1, -4, 1, -4, 1, -2, 3])
        line = load("margins 0 0 ;") + [7, 3, 7, 0, 4] + [5, 7, 0] + [6, 7] + [7, 0] + [4] + [5, 4, 4] + [4]
        self.assertEqual(answers(line), [3, 1, 0, 0, 1, -4, 1, -2, 1, -2, 1, -4, 4, 0, 0, 0, 0, 1, -2,
                                         4, 0, 0, 0, 0])

    def test_a_long_line(self):
        text = "margins 2 2 ; word ta-ble ; pattern a1b ;"
        row = text + " " * (8192 - len(text))
        found = run(load(text), load(row), levels("a" * 8192), part(0))
        self.assertEqual(found, [[1, 1, 1], [0, 1, 4096], [-4], [1, 2, 1, 0, 0]])


class NothingKept(unittest.TestCase):
    def test_the_list_handed_in_is_the_same_afterwards(self):
        line = load(WORKED) + load("margins 9 ;")
        for call in ASKED + WRONG[:2]:
            line += call
        before = list(line)
        answers(line)
        self.assertEqual(line, before)

    def test_the_list_handed_in_is_never_changed(self):
        class Watched(list):
            def refuse(self, *given, **named):
                raise AssertionError("the list handed in is changed")

            append = extend = insert = remove = pop = clear = sort = reverse = refuse
            __setitem__ = __delitem__ = __iadd__ = __imul__ = refuse

        line = [number for call in (load(WORKED), *ASKED) for number in call]
        self.assertEqual(answers(Watched(line)), answers(line))

    def test_two_times_have_nothing_of_one_another(self):
        self.assertEqual(answers(load(WORKED)), [3, 1, 3, 3])
        self.assertEqual(answers(shown()), [1, -1])
        self.assertEqual(answers(load("margins 0 0 ;") + part(0)), [3, 1, 0, 0, 1, -2])
        for call in ASKED:
            self.assertEqual(answers(list(call)), [1, -1])
        self.assertEqual(answers(load(WORKED) + score()), [3, 1, 3, 3, 4, 3, 3, 0, 0])
        self.assertEqual(answers(load(WORKED) + score()), [3, 1, 3, 3, 4, 3, 3, 0, 0])
        self.assertEqual(answers(score()), [1, -1])

    def test_what_is_given_back_belongs_to_the_caller(self):
        line = [number for call in (load(WORKED), *ASKED) for number in call]
        first = answers(line)
        kept = list(first)
        first.clear()
        self.assertEqual(answers(line), kept)


if __name__ == "__main__":
    unittest.main()
