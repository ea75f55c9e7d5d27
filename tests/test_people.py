"""People and rosters: the questions people and roster."""

import unittest

from helper import HUGE, TOLD, begin, last, people, rest, roster, run, shift, there

# Four shifts of ten minutes, one behind another, but for the gap of five minutes before the last one.
CHAIN = (begin(100), shift(0, 10), shift(10, 20), shift(20, 30), shift(35, 45))


class People(unittest.TestCase):
    def test_without_a_rest_one_person_has_them_all(self):
        self.assertEqual(last(*CHAIN, people(0, 1, 1, 1, 2, 1, 3, 1)), [1, 0, 4, 0, 1, 2, 3])

    def test_a_rest_wants_more_people(self):
        # With a rest of 1 the first person is free from 11, too late for shift 1, and has shifts 2 and 3.
        self.assertEqual(last(*CHAIN, rest(1), people(0, 1, 1, 1, 2, 1, 3, 1)), [2, 10, 3, 0, 2, 3, 1, 1])
        # With 16 both are too late for 20: shift 2 wants a third one. The first is back, from 26 on, for shift 3.
        self.assertEqual(last(*CHAIN, rest(16), people(0, 1, 1, 1, 2, 1, 3, 1)), [3, 20, 2, 0, 3, 1, 1, 1, 2])

    def test_a_shift_that_begins_just_at_the_end_of_the_rest(self):
        plan = (begin(100), shift(0, 10), shift(17, 20))
        self.assertEqual(last(*plan, rest(7), people(0, 1, 1, 1)), [1, 0, 2, 0, 1])
        self.assertEqual(last(*plan, rest(8), people(0, 1, 1, 1)), [2, 17, 1, 0, 1, 1])
        plan = (begin(100), shift(0, 10), shift(16, 20))
        self.assertEqual(last(*plan, rest(7), people(0, 1, 1, 1)), [2, 16, 1, 0, 1, 1])

    def test_the_rest_of_begin_counts_as_well(self):
        shifts = (shift(0, 10), shift(10, 20))
        self.assertEqual(last(begin(100, 1), *shifts, people(0, 1, 1, 1)), [2, 10, 1, 0, 1, 1])
        self.assertEqual(last(begin(100, 1), *shifts, rest(0), people(0, 1, 1, 1)), [1, 0, 2, 0, 1])
        self.assertEqual(last(begin(100, 9), begin(100), *shifts, people(0, 1, 1, 1)), [1, 0, 2, 0, 1])

    def test_lesser_begin_first_whatever_the_shifts_and_the_lists_order(self):
        plan = (begin(100), shift(20, 30), shift(10, 20), shift(0, 10))
        for row in ((0, 1, 1, 1, 2, 1), (2, 1, 1, 1, 0, 1), (1, 1, 2, 1, 0, 1)):
            self.assertEqual(last(*plan, people(*row)), [1, 0, 3, 2, 1, 0], row)

    def test_of_equal_begin_by_the_shifts_numbers(self):
        plan = (begin(100), shift(5, 30), shift(5, 10), shift(5, 20), shift(10, 40), shift(20, 40))
        # Not by the end: shift 0, the longest one, goes to the first person, and 1 to the second.
        self.assertEqual(last(*plan, people(4, 1, 3, 1, 2, 1, 1, 1, 0, 1)), [3, 5, 1, 0, 2, 1, 3, 2, 2, 4])

    def test_several_crews_on_one_shift(self):
        self.assertEqual(last(*CHAIN, people(0, 3)), [3, 0, 1, 0, 1, 0, 1, 0])
        self.assertEqual(last(*CHAIN, people(0, 1, 1, 2, 2, 3)), [3, 20, 3, 0, 1, 2, 2, 1, 2, 1, 2])

    def test_the_first_person_who_is_free_gets_a_second_shift(self):
        # The second person was free before the first one, yet it is the first who comes first.
        plan = (begin(100), shift(0, 20), shift(0, 10), shift(20, 30))
        self.assertEqual(last(*plan, people(0, 1, 1, 1, 2, 1)), [2, 0, 2, 0, 2, 1, 1])
        # Here the first one isn't free, and the second gets it.
        plan = (begin(100), shift(0, 20), shift(0, 10), shift(19, 30))
        self.assertEqual(last(*plan, people(0, 1, 1, 1, 2, 1)), [2, 0, 1, 0, 2, 1, 2])

    def test_it_is_the_last_shift_that_counts(self):
        # Behind shift 1 the first person is not free at 15, though free from shift 0 long since.
        plan = (begin(100), shift(0, 5), shift(5, 50), shift(15, 20))
        self.assertEqual(last(*plan, people(0, 1, 1, 1, 2, 1)), [2, 15, 2, 0, 1, 1, 2])

    def test_the_minute_told(self):
        # The last person came at 20 and has shift 3, from 35 on, as well: 20 is told.
        self.assertEqual(last(*CHAIN, rest(5), people(0, 1, 1, 2, 2, 2, 3, 4)),
                         [4, 20, 3, 0, 2, 3, 2, 1, 3, 2, 1, 3, 2, 2, 3])
        plan = (begin(100), shift(7, 20), shift(12, 20), shift(40, 50))
        self.assertEqual(last(*plan, people(0, 1, 1, 1, 2, 2)), [2, 12, 2, 0, 2, 2, 1, 2])

    def test_nobody(self):
        self.assertEqual(last(people()), [0, 0])
        self.assertEqual(last(*CHAIN, people()), [0, 0])
        self.assertEqual(last(*CHAIN, people(1, 0, 3, 0)), [0, 0])

    def test_crews_of_0_are_passed_over(self):
        self.assertEqual(last(*CHAIN, people(0, 0, 1, 1, 2, 0, 3, 1)), [1, 10, 2, 1, 3])

    def test_the_longest_rest(self):
        told = last(begin(1000000, 1000000), shift(0, 1), shift(999999, 1000000), people(0, 1, 1, 1))
        self.assertEqual(told, [2, 999999, 1, 0, 1, 1])

    def test_300_crews_and_301(self):
        self.assertEqual(last(*CHAIN, people(1, 300)), [300, 10] + [1, 1] * 300)
        self.assertEqual(last(*CHAIN, people(1, 301)), [-11])
        self.assertEqual(last(*CHAIN, people(0, 150, 1, 150)), [150, 0] + [2, 0, 1] * 150)
        self.assertEqual(last(*CHAIN, people(0, 150, 1, 151)), [-11])
        self.assertEqual(last(*CHAIN, people(0, 0, 1, 300, 2, 0)), [300, 10] + [1, 1] * 300)
        self.assertEqual(last(*CHAIN, people(0, 1000, 1, 1000, 2, 1000, 3, 1000)), [-11])

    def test_60_shifts(self):
        row = [number for j in range(60) for number in (59 - j, 5)]
        told = last(*[shift(j, j + 1) for j in range(60)], people(*row))
        self.assertEqual(told, [5, 0] + [60, *range(60)] * 5)

    def test_lists_not_as_told(self):
        wrong = ([0], [0, 1, 1], [4, 1], [-1, 1], [0, -1], [0, 1001], [0, 1, 0, 1], [0, 0, 0, 0], [HUGE, 1], [-HUGE, 1],
                 [0, HUGE], [0, -HUGE])
        for row in wrong:
            self.assertEqual(last(*CHAIN, people(*row)), [-2], row)
        self.assertEqual(last(people(0, 0)), [-2])

    def test_refusals_due_together(self):
        self.assertEqual(last(*CHAIN, people(0, 301, 9, 1)), [-2])
        self.assertEqual(last(*CHAIN, people(0, 1000, 1)), [-2])

    def test_changes_nothing(self):
        told = run(*CHAIN, rest(3), TOLD, people(0, 9, 1, 9), people(0, 301), people(0), TOLD)
        self.assertEqual(told[6], told[-1])

    def test_as_many_as_are_there_or_at_rest_at_the_minute_told(self):
        row = (0, 2, 1, 3, 2, 1, 3, 4)
        for minutes in range(40):
            told = last(*CHAIN, rest(minutes), people(*row))
            self.assertEqual(last(*CHAIN, rest(minutes), there(told[1], *row))[1], told[0], minutes)


class Roster(unittest.TestCase):
    def test_one_that_holds(self):
        self.assertEqual(last(*CHAIN, roster([0, 1, 2, 3])), [0, 1, 1, 1, 1, 1])
        self.assertEqual(last(*CHAIN, roster([0, 2], [1, 3], [0, 3])), [0, 3, 2, 1, 1, 2])

    def test_no_rows_and_empty_rows(self):
        self.assertEqual(last(roster()), [0, 0])
        self.assertEqual(last(roster([], [])), [0, 2])
        self.assertEqual(last(*CHAIN, roster()), [0, 0, 0, 0, 0, 0])
        self.assertEqual(last(*CHAIN, roster([], [2], [])), [0, 3, 0, 0, 1, 0])

    def test_a_shift_that_begins_just_at_the_end_of_the_rest(self):
        plan = (begin(100), shift(0, 10), shift(17, 20), shift(16, 20))
        self.assertEqual(last(*plan, rest(7), roster([0, 1])), [0, 1, 1, 1, 0])
        self.assertEqual(last(*plan, rest(7), roster([0, 2])), [1, 0, 1])
        self.assertEqual(last(*plan, rest(8), roster([0, 1])), [1, 0, 1])
        self.assertEqual(last(*plan, rest(0), roster([0, 1], [0, 2])), [0, 2, 2, 1, 1])

    def test_the_first_person_and_the_first_shift_that_begins_too_early(self):
        self.assertEqual(last(*CHAIN, rest(5), roster([0, 2, 3], [], [0, 2, 3, 1, 1], [1, 0])), [1, 2, 3])
        self.assertEqual(last(*CHAIN, rest(5), roster([0, 3], [1, 2], [1, 0])), [1, 1, 1])
        self.assertEqual(last(*CHAIN, roster([3], [0], [2, 0], [1, 1])), [1, 2, 1])

    def test_only_the_one_before_it_counts(self):
        # Shift 2 stands behind shift 1, which stands too early behind shift 3: the place of shift 1 is told.
        self.assertEqual(last(*CHAIN, roster([0, 3, 1, 2])), [1, 0, 2])

    def test_the_first_shift_of_a_row_may_begin_at_any_time(self):
        self.assertEqual(last(*CHAIN, rest(1000000), roster([0], [1], [2], [3])), [0, 4, 1, 1, 1, 1])

    def test_a_shift_twice_in_a_row_begins_too_early(self):
        self.assertEqual(last(*CHAIN, roster([2, 2])), [1, 0, 1])

    def test_a_shift_in_several_rows(self):
        self.assertEqual(last(*CHAIN, roster([1], [1], [1, 3])), [0, 3, 0, 3, 0, 1])

    def test_the_longest_rest(self):
        plan = (begin(1000000, 999998), shift(0, 1), shift(999999, 1000000))
        self.assertEqual(last(*plan, roster([0, 1])), [0, 1, 1, 1])
        self.assertEqual(last(*plan, rest(1000000), roster([0, 1])), [1, 0, 1])

    def test_199_rows(self):
        self.assertEqual(last(*CHAIN, roster(*[[0, 1]] * 199)), [0, 199, 199, 199, 0, 0])
        self.assertEqual(last(*CHAIN, roster(*[[0, 1]] * 198, [1, 0])), [1, 198, 1])
        self.assertEqual(last(*CHAIN, roster(*[[]] * 199)), [0, 199, 0, 0, 0, 0])

    def test_a_long_row(self):
        self.assertEqual(last(*CHAIN, roster([0] * 2000)), [1, 0, 1])
        chain = [shift(j, j + 1) for j in range(60)]
        self.assertEqual(last(*chain, roster(list(range(60)))), [0, 1] + [1] * 60)
        self.assertEqual(last(*chain, roster(list(range(60)) + [59])), [1, 0, 60])

    def test_lists_not_as_told(self):
        for rows in ([[4]], [[-1]], [[0, 1], [1, 4]], [[], [], [HUGE]], [[-HUGE, 0]], [[0, 4]]):
            self.assertEqual(last(*CHAIN, roster(*rows)), [-2], rows)
        self.assertEqual(last(roster([0])), [-2])

    def test_not_as_told_comes_before_too_early(self):
        self.assertEqual(last(*CHAIN, roster([1, 0], [4])), [-2])
        self.assertEqual(last(*CHAIN, roster([1, 0, -1])), [-2])

    def test_changes_nothing(self):
        told = run(*CHAIN, TOLD, roster([0, 1]), roster([1, 0]), roster([9]), TOLD)
        self.assertEqual(told[5], told[-1])

    def test_people_hand_out_what_holds(self):
        row = (0, 2, 1, 3, 2, 1, 3, 4)
        for minutes in range(40):
            told = last(*CHAIN, rest(minutes), people(*row))
            rows = []
            at = 2
            while at < len(told):
                rows.append(told[at + 1:at + 1 + told[at]])
                at += 1 + told[at]
            self.assertEqual(last(*CHAIN, rest(minutes), roster(*rows)), [0, told[0], 2, 3, 1, 4], minutes)


if __name__ == "__main__":
    unittest.main()
