"""answers: many calls in one list, and the calls while no list is held."""

import unittest

from helper import MOST, WORKED, levels, load, part, run, shown
from partedwords.patterns import answers

# Calls that come later are refused all the same while no list is held.
LATER = ([4], [5, 0, 1], [5, -MOST, MOST], [6, 0], [6, MOST], [7, 0], [7, 2, 97, 98], [7, 3, 4, 5, 6])


class Worked(unittest.TestCase):
    def test_the_worked_example_number_by_number(self):
        line = load(WORKED) + levels("table") + part(2)
        self.assertEqual(answers(line), [3, 1, 3, 3, 6, 4, 0, 1, 2, 0, 2, 5, 1, 2, 1, 0, 0])


class NoList(unittest.TestCase):
    def test_every_call_but_load_is_refused(self):
        for call in (shown(), levels("table"), levels(""), levels("A"), levels("a" * 8192), part(0),
                     part(-1), part(MOST), part(-MOST)) + LATER:
            self.assertEqual(answers(list(call)), [1, -1], call[:3])

    def test_they_are_refused_one_behind_another(self):
        calls = [shown(), levels("table"), part(0)] + [list(call) for call in LATER]
        self.assertEqual(run(*calls, load(WORKED)), [[-1]] * len(calls) + [[1, 3, 3]])

    def test_none_is_refused_so_behind_a_load_that_was_right(self):
        found = run(shown(), load(WORKED), shown(), levels("A"), part(3), part(0), levels("table"))
        self.assertEqual(found[0], [-1])
        self.assertEqual(found[2][0], len(found[2]) - 1)
        self.assertEqual(found[3:], [[-4], [-2], [1, 2, 1, 0, 0], [4, 0, 1, 2, 0, 2]])

    def test_behind_a_load_that_failed(self):
        found = run(load("margins 2 2"), shown(), levels("a"), part(-1))
        self.assertEqual(found, [[0, 3, 11], [-1], [-1], [-1]])

    def test_a_load_that_fails_behind_one_that_was_right(self):
        found = run(load(WORKED), load("?"), load(""), load(" " * 8192), levels("table"), part(2))
        self.assertEqual(found[1:4], [[0, 2, 0], [0, 3, 0], [0, 1, 4096]])
        self.assertEqual(found[4:], [[4, 0, 1, 2, 0, 2], [1, 2, 1, 0, 0]])


class ManyCalls(unittest.TestCase):
    def test_1_to_100_calls(self):
        cycle = [levels("table"), part(2), part(3), levels("T"), part(0)]
        expected = [[4, 0, 1, 2, 0, 2], [1, 2, 1, 0, 0], [-2], [-4], [1, 2, 1, 0, 0]]
        for count in range(100):
            calls = [cycle[k % 5] for k in range(count)]
            self.assertEqual(run(load(WORKED), *calls), [[1, 3, 3]] + [expected[k % 5] for k in range(count)])

    def test_100_loads(self):
        calls = [load(f"margins {k % 6} {k % 7} ;") for k in range(100)]
        for k, answer in enumerate(run(*calls)):
            self.assertEqual(answer, [1, 0, 0] if k % 7 < 6 else [0, 7, 10])

    def test_a_refusal_has_the_count_1(self):
        self.assertEqual(answers([1]), [1, -1])
        line = load("margins 0 0 ;") + part(0) + levels("a") + levels("ab")
        self.assertEqual(answers(line), [3, 1, 0, 0, 1, -2, 1, -4, 2, 1, 0])

    def test_rows_that_look_like_calls(self):
        line = load("margins 0 0 ;") + [2, 3, 1, 1, 1] + [2, 0] + [3, 1] + [0, 1, 1] + [1]
        self.assertEqual(answers(line)[:11], [3, 1, 0, 0, 1, -4, 1, -4, 1, -2, 3])

    def test_a_long_line(self):
        text = "margins 2 2 ; word ta-ble ; pattern a1b ;"
        row = text + " " * (8192 - len(text))
        found = run(load(text), load(row), levels("a" * 8192), part(0))
        self.assertEqual(found, [[1, 1, 1], [0, 1, 4096], [-4], [1, 2, 1, 0, 0]])


class NothingKept(unittest.TestCase):
    def test_the_list_handed_in_is_the_same_afterwards(self):
        line = load(WORKED) + shown() + levels("table") + part(0) + load("margins 9 ;") + part(9)
        before = list(line)
        answers(line)
        self.assertEqual(line, before)

    def test_the_list_handed_in_is_never_changed(self):
        class Watched(list):
            def refuse(self, *given, **named):
                raise AssertionError("the list handed in is changed")

            append = extend = insert = remove = pop = clear = sort = reverse = refuse
            __setitem__ = __delitem__ = __iadd__ = __imul__ = refuse

        line = load(WORKED) + shown() + levels("table") + part(0)
        self.assertEqual(answers(Watched(line)), answers(line))

    def test_two_times_have_nothing_of_one_another(self):
        self.assertEqual(answers(load(WORKED)), [3, 1, 3, 3])
        self.assertEqual(answers(shown()), [1, -1])
        self.assertEqual(answers(load("margins 0 0 ;") + part(0)), [3, 1, 0, 0, 1, -2])
        self.assertEqual(answers(levels("table")), [1, -1])

    def test_what_is_given_back_belongs_to_the_caller(self):
        line = load(WORKED) + shown() + levels("table") + part(2)
        first = answers(line)
        kept = list(first)
        first.clear()
        self.assertEqual(answers(line), kept)


if __name__ == "__main__":
    unittest.main()
