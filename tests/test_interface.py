"""The form of `crewshifts.plan.answers`: one list in, one list out, nothing changed and nothing kept."""

import unittest

from crewshifts.plan import Plan, answer, answers
from helper import BACK, LEAST, apart, begin, changes, covers, parted, rest, shift

LINE = [*begin(40, 5), *changes(0, 2, 10, 3, 20, 1, 30, 0), *shift(0, 15), *shift(5, 25), *rest(7), *shift(12, 40),
        *LEAST, *BACK, *covers(0, 2, 1, 1), *apart(0, 1), *apart(), *shift(3, 3), *changes(1), *begin(0)]
TOLD = [1, 0, 1, 0, 1, 0, 1, 1, 1, 0, 1, 2,
        11, 5, 3, 0, 2, 1, 1, 2, 2, 2, 0, 15, 11, 5, 3, 0, 2, 1, 2, 2, 1, 2, 0, 15,
        3, 1, 15, 2, 4, 1, 0, 0, 1, 2, 0, 0, 1, -4, 1, -2, 1, -1]


class Form(unittest.TestCase):
    def test_one_list_of_whole_numbers(self):
        told = answers(LINE)
        self.assertEqual(told, TOLD)
        self.assertIs(type(told), list)
        self.assertEqual({type(number) for number in told}, {int})

    def test_what_is_handed_in_is_as_it_was(self):
        line = list(LINE)
        answers(line)
        self.assertEqual(line, LINE)

    def test_twice_the_same(self):
        self.assertEqual(answers(LINE), answers(LINE))

    def test_nothing_is_kept_from_one_time_to_the_next(self):
        fresh = [*shift(0, 1440), *LEAST]
        answers([*begin(40, 5), *changes(0, 2), *shift(0, 40)])
        self.assertEqual(parted(answers(fresh)), [[0], [0, 0, 0]])

    def test_an_answer_is_not_tied_to_the_next(self):
        answers(LINE).append(1)
        self.assertEqual(answers(LINE), TOLD)

    def test_two_hundred_calls(self):
        self.assertEqual(answers([*begin(9)] * 199 + LEAST), [1, 0] * 199 + [3, 0, 0, 0])

    def test_the_longest_lists(self):
        row = list(range(1000)) + list(range(1000))
        self.assertEqual(parted(answers([*covers(*row), *changes(*row), *apart(*row)])), [[-2], [-2], [-2]])


class NoTold(unittest.TestCase):
    """-9 can't come from calls of the told forms, so the calls are handed in one by one here."""

    def test_unknown_place(self):
        for place in (-1, 16, 10 ** 18, -10 ** 18):
            self.assertEqual(answer(Plan(), place, [], []), [-9])
        self.assertEqual(answers([99, 0, 0, *begin(3), 16, 2, 5, 6, 1, 2, 7, 8, *shift(0, 3)]),
                         [1, -9, 1, 0, 1, -9, 1, 0])

    def test_other_counts(self):
        told = {0: (2, 0), 1: (0, 1), 2: (2, 0), 3: (1, 0), 4: (0, 0), 5: (0, 0), 6: (0, 1), 7: (0, 1)}
        for place, form in told.items():
            for numbers in range(4):
                for lists in range(3):
                    given = answer(Plan(), place, [1] * numbers, [[]] * lists)
                    self.assertEqual(given == [-9], (numbers, lists) != form, (place, numbers, lists))

    def test_comes_before_the_others_and_changes_nothing(self):
        plan = Plan()
        self.assertEqual(answer(plan, 0, [0, 0, 0], []), [-9])
        self.assertEqual(answer(plan, 0, [5, 5], [[]]), [-9])
        self.assertEqual(answer(plan, 1, [], [[0, 1], [0]]), [-9])
        self.assertEqual(answer(plan, 2, [0, 5, 5], []), [-9])
        self.assertEqual(answer(plan, 3, [5, 5], []), [-9])
        self.assertEqual((plan.horizon, plan.rest, plan.changes, plan.shifts), (1440, 0, [], []))


if __name__ == "__main__":
    unittest.main()
