"""The form of `crewshifts.plan.answers`: one list in, one list out, nothing changed and nothing kept."""

import contextlib
import io
import unittest

from crewshifts.plan import answer, answers
from crewshifts.state import Plan
from helper import BACK, HUGE, LEAST, TOLD, apart, begin, changes, covers, hours, ill, need, parted, people, rest
from helper import roster, shift, shortage, there

# All sixteen calls, with changes between the questions, and each with what it answers.
TOGETHER = (
    (begin(40, 5), [0]),
    (changes(0, 2, 10, 3, 20, 1, 30, 0), [0]),
    (shift(0, 15), [0]),
    (shift(5, 25), [1]),
    (people(0, 1, 1, 1), [2, 5, 1, 0, 1, 1]),
    (rest(7), [0]),
    (shift(12, 40), [2]),
    (LEAST, [5, 3, 0, 2, 1, 1, 2, 2, 2, 0, 15]),
    (BACK, [5, 3, 0, 2, 1, 2, 2, 1, 2, 0, 15]),
    (covers(0, 2, 1, 1), [1, 15, 2]),
    (apart(0, 1), [1, 0, 0, 1]),
    (apart(), [0, 0]),
    (shift(3, 3), [-4]),
    (shift(22, 30), [3]),
    (people(3, 1, 0, 2), [2, 0, 2, 0, 3, 1, 0]),
    (rest(8), [0]),
    (people(3, 1, 0, 2), [3, 22, 1, 0, 1, 0, 1, 3]),
    (people(0, 301), [-11]),
    (roster([0], [0, 3]), [1, 1, 1]),
    (rest(-1), [-1]),
    (roster([0], [], [0, 4]), [-2]),
    (rest(7), [0]),
    (roster([0], [], [0, 3]), [0, 3, 2, 0, 0, 1]),
    (need(19), [3]),
    (need(40), [-1]),
    (there(21, 0, 1, 1, 2, 2, 4), [6, 7]),
    (shortage(4), [1, 2, 0, 15]),
    (changes(1), [-2]),
    (ill(2, 2, 0, 2, 1, 1, 2, 2), [2, 1, 2, 2, 1, 15]),
    (ill(2, 3, 0, 2, 1, 1, 2, 2), [-3]),
    (hours(0, 2, 3, 1), [38]),
    (TOLD, [40, 7, 4, 0, 2, 10, 3, 20, 1, 30, 0, 4, 0, 15, 5, 25, 12, 40, 22, 30]),
    (changes(0, 1), [0]),
    (LEAST, [2, 2, 0, 1, 2, 1, 2, 0, 15]),
    (begin(0), [-1]),
    (begin(20), [0]),
    (TOLD, [20, 0, 0, 0]),
    (changes(0, 1), [0]),
    (shift(0, 19), [0]),
    (LEAST, [-7]),
    (BACK, [-7]),
    (ill(0, 1, 0, 1), [-7]),
    (shortage(9), [1, 1, 19]),
)
LINE = [number for call, told in TOGETHER for number in call]
ANSWERED = [number for call, told in TOGETHER for number in (len(told), *told)]


class ReadOnly(list):
    """A list that may be read, but refuses to be changed."""

    def refuse(self, *given, **named):
        raise AssertionError("what was handed in is changed")

    append = extend = insert = pop = remove = clear = sort = reverse = refuse
    __setitem__ = __delitem__ = __iadd__ = __imul__ = refuse


class Form(unittest.TestCase):
    def test_one_list_of_whole_numbers(self):
        told = answers(LINE)
        self.assertEqual(parted(told), [right for call, right in TOGETHER])
        self.assertEqual(told, ANSWERED)
        self.assertIs(type(told), list)
        self.assertEqual({type(number) for number in told}, {int})

    def test_the_line_has_all_sixteen_calls(self):
        self.assertEqual({call[0] for call, told in TOGETHER}, set(range(16)))

    def test_what_is_handed_in_is_as_it_was(self):
        line = list(LINE)
        answers(line)
        self.assertEqual(line, LINE)

    def test_what_is_handed_in_is_not_changed_for_a_while_either(self):
        self.assertEqual(answers(ReadOnly(LINE)), ANSWERED)

    def test_twice_the_same(self):
        self.assertEqual(answers(LINE), answers(LINE))

    def test_each_question_twice_the_same(self):
        calls = [call for call, told in TOGETHER]
        for k, call in enumerate(calls):
            if call[0] > 3:
                line = [number for part in (*calls[:k], call, call) for number in part]
                told = parted(answers(line))
                self.assertEqual(told[-1], told[-2], call)

    def test_a_refused_call_and_a_question_change_nothing(self):
        calls = []
        for call, right in TOGETHER:
            before = parted(answers([*calls, *TOLD]))[-1]
            calls.extend(call)
            after = parted(answers([*calls, *TOLD]))[-1]
            if call[0] > 3 or right[0] < 0:
                self.assertEqual(before, after, call)

    def test_nothing_is_kept_from_one_time_to_the_next(self):
        fresh = [*shift(0, 1440), *LEAST]
        answers([*begin(40, 5), *changes(0, 2), *shift(0, 40)])
        self.assertEqual(parted(answers(fresh)), [[0], [0, 0, 0]])

    def test_an_answer_is_not_tied_to_the_next(self):
        answers(LINE).append(1)
        self.assertEqual(answers(LINE), ANSWERED)

    def test_two_hundred_calls(self):
        self.assertEqual(answers([*begin(9)] * 199 + LEAST), [1, 0] * 199 + [3, 0, 0, 0])

    def test_the_longest_lists(self):
        row = list(range(1000)) + list(range(1000))
        calls = [call(*row) for call in (covers, changes, apart, people, hours)]
        calls += [there(0, *row), roster(row), ill(0, 1, *row)]
        for call in calls:
            self.assertEqual(parted(answers([*shift(0, 9), *call])), [[0], [-2]])

    def test_the_greatest_and_least_numbers(self):
        for huge in (HUGE, -HUGE):
            calls = (begin(huge, huge), changes(huge, huge), shift(huge, huge), rest(huge), covers(huge, huge),
                     apart(huge), people(huge, huge), roster([huge]), need(huge), there(huge, huge), shortage(huge),
                     ill(huge, huge, huge))
            told = answers([number for call in calls for number in call])
            wanted = [-1, -2, -1, -1, -2, -2, -2, -2, -1, -1, -1, -1]
            self.assertEqual(parted(told), [[refusal] for refusal in wanted])

    def test_prints_nothing(self):
        out = io.StringIO()
        with contextlib.redirect_stdout(out), contextlib.redirect_stderr(out):
            answers(LINE)
        self.assertEqual(out.getvalue(), "")


class NoTold(unittest.TestCase):
    """-9 can't come from calls of the told forms, so the calls are handed in one by one here."""

    def test_unknown_place(self):
        for place in (-1, 16, 10 ** 18, -10 ** 18):
            self.assertEqual(answer(Plan(), place, [], []), [-9])
        self.assertEqual(answers([99, 0, 0, *begin(3), 16, 2, 5, 6, 1, 2, 7, 8, *shift(0, 3)]),
                         [1, -9, 1, 0, 1, -9, 1, 0])

    def test_other_counts(self):
        told = {0: (2, 0), 1: (0, 1), 2: (2, 0), 3: (1, 0), 4: (0, 0), 5: (0, 0), 6: (0, 1), 7: (0, 1), 8: (0, 1),
                10: (1, 0), 11: (1, 1), 12: (1, 0), 13: (2, 1), 14: (0, 1), 15: (0, 0)}
        for place, form in told.items():
            for numbers in range(4):
                for lists in range(3):
                    given = answer(Plan(), place, [1] * numbers, [[]] * lists)
                    self.assertEqual(given == [-9], (numbers, lists) != form, (place, numbers, lists))

    def test_other_counts_at_roster(self):
        for lists in (0, 1, 2, 199):
            self.assertEqual(answer(Plan(), 9, [], [[]] * lists), [0, lists])
            self.assertEqual(answer(Plan(), 9, [1], [[]] * lists), [-9])
        self.assertEqual(answer(Plan(), 9, [], [[]] * 200), [-9])
        self.assertEqual(answer(Plan(), 9, [], [[5]] * 200), [-9])

    def test_comes_before_the_others_and_changes_nothing(self):
        plan = Plan()
        self.assertEqual(answer(plan, 0, [0, 0, 0], []), [-9])
        self.assertEqual(answer(plan, 0, [5, 5], [[]]), [-9])
        self.assertEqual(answer(plan, 1, [], [[0, 1], [0]]), [-9])
        self.assertEqual(answer(plan, 2, [0, 5, 5], []), [-9])
        self.assertEqual(answer(plan, 3, [5, 5], []), [-9])
        self.assertEqual(answer(plan, 10, [-1], [[]]), [-9])
        self.assertEqual(answer(plan, 13, [0, 0], [[1], [1]]), [-9])
        self.assertEqual((plan.horizon, plan.rest, plan.changes, plan.shifts), (1440, 0, [], []))


if __name__ == "__main__":
    unittest.main()
