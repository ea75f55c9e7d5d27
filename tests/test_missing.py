"""What is missing: the questions shortage and ill, which tell what least would at other needs."""

import unittest

from helper import HUGE, LEAST, TOLD, begin, changes, covers, ill, last, rest, run, shift, shortage

# Needs 2 from 0, 3 from 10, 1 from 20, none from 30; the fewest crews are 2 on shift 0, 1 on 1 and 2 on 2.
DAY = (begin(40), changes(0, 2, 10, 3, 20, 1, 30, 0), shift(0, 15), shift(5, 25), shift(12, 40))


class Shortage(unittest.TestCase):
    def test_none(self):
        self.assertEqual(last(*DAY, shortage(5)), [0, 0])
        self.assertEqual(last(*DAY, shortage(6)), [0, 0])
        self.assertEqual(last(shortage(0)), [0, 0])
        self.assertEqual(last(shift(0, 9), changes(0, 0), shortage(0)), [0, 0])

    def test_with_a_witness(self):
        # One fewer: 1 at 0, 2 from 10, none from 20: that's 1 on shift 0, 1 on 1 (at 10) and 1 on 2 (at 15): 3 crews.
        self.assertEqual(last(*DAY, shortage(4)), [1, 2, 0, 15])
        self.assertEqual(last(*DAY, shortage(3)), [1, 2, 0, 15])
        # Two fewer: only one from 10 to 19, on shift 1. With one fewer 15 is taken and 10 not (shift 1 has 15).
        self.assertEqual(last(*DAY, shortage(2)), [2, 2, 0, 15])
        self.assertEqual(last(*DAY, shortage(1)), [2, 2, 0, 15])
        # With two fewer there's one crew on shift 1, put at 10.
        self.assertEqual(last(*DAY, shortage(0)), [3, 1, 10])

    def test_the_witness_is_that_of_one_fewer_than_k(self):
        plan = (begin(20), changes(0, 1, 5, 6, 10, 2), shift(0, 5), shift(5, 10), shift(10, 20))
        self.assertEqual(last(*plan, shortage(8)), [1, 3, 0, 5, 10])
        self.assertEqual(last(*plan, shortage(6)), [1, 3, 0, 5, 10])
        self.assertEqual(last(*plan, shortage(5)), [2, 2, 5, 10])
        self.assertEqual(last(*plan, shortage(4)), [2, 2, 5, 10])
        self.assertEqual(last(*plan, shortage(3)), [3, 1, 5])
        self.assertEqual(last(*plan, shortage(0)), [6, 1, 5])

    def test_a_point_that_no_shift_has(self):
        plan = (begin(20), changes(0, 5, 6, 2, 9, 0), shift(0, 4))
        # With fewer than 5 fewer some are needed at 4, which no shift has; with 5 fewer none is.
        for n in (0, 4, 5, 100000):
            self.assertEqual(last(*plan, shortage(n)), [5, 1, 4], n)

    def test_the_first_such_point_is_told(self):
        plan = (begin(20), changes(2, 3, 6, 0, 8, 4, 9, 3), shift(4, 9))
        # 2, 3 and 9 to 19 have no shift. With 2 fewer, one is needed at 2.
        self.assertEqual(last(*plan, shortage(100)), [3, 1, 2])
        plan = (begin(20), changes(2, 3, 6, 0, 8, 4), shift(4, 8))
        # With 3 fewer none is needed at 2, but one at 8.
        self.assertEqual(last(*plan, shortage(100)), [4, 1, 8])

    def test_a_point_that_no_shift_has_comes_before_the_witness(self):
        plan = (begin(20), changes(0, 9, 5, 3, 6, 9), shift(0, 5), shift(6, 20))
        # At k - 1 = 2 both are so: 14 crews are wanted, and nobody can be there at 5.
        self.assertEqual(last(*plan, shortage(12)), [3, 1, 5])
        # At k - 1 = 3 only the crews are too few.
        self.assertEqual(last(*plan, shortage(11)), [4, 2, 0, 6])

    def test_a_point_inside_another_needs_stretch(self):
        plan = (begin(20), changes(0, 2), shift(0, 7), shift(8, 20))
        self.assertEqual(last(*plan, shortage(9)), [2, 1, 7])

    def test_a_need_of_1000_that_no_shift_has(self):
        self.assertEqual(last(changes(0, 1000), shortage(100000)), [1000, 1, 0])
        self.assertEqual(last(changes(1439, 1000), shift(0, 1439), shortage(0)), [1000, 1, 1439])

    def test_a_need_of_1000_and_no_crews(self):
        plan = (changes(7, 1000), shift(0, 1440))
        self.assertEqual(run(*plan, shortage(0), shortage(1), shortage(999), shortage(1000), shortage(100000))[2:],
                         [[1000, 1, 7], [999, 1, 7], [1, 1, 7], [0, 0], [0, 0]])

    def test_each_k(self):
        plan = (changes(3, 40), shift(0, 1440))
        for n in range(40):
            self.assertEqual(last(*plan, shortage(n)), [40 - n, 1, 3], n)

    def test_many_crews(self):
        sixty = [shift(k, k + 1) for k in range(60)]
        plan = (begin(60), changes(0, 1000), *sixty)
        self.assertEqual(run(*plan, shortage(60000), shortage(59999), shortage(59940), shortage(59939))[62:],
                         [[0, 0], [1, 60, *range(60)], [1, 60, *range(60)], [2, 60, *range(60)]])

    def test_out_of_range(self):
        for n in (-1, 100001, HUGE, -HUGE):
            self.assertEqual(last(*DAY, shortage(n)), [-1], n)
        self.assertEqual(last(*DAY, shortage(100000)), [0, 0])

    def test_the_rest_makes_no_difference(self):
        self.assertEqual(last(*DAY, rest(1000000), shortage(0)), [3, 1, 10])

    def test_changes_nothing(self):
        told = run(*DAY, TOLD, LEAST, shortage(0), shortage(-1), shortage(9), TOLD, LEAST)
        self.assertEqual(told[5:7], told[-2:])


class Ill(unittest.TestCase):
    def test_crews_missing(self):
        # Shift 0 is left with 1: one is missing from 0 to 14.
        self.assertEqual(last(*DAY, ill(0, 1, 0, 2, 1, 1, 2, 2)), [1, 1, 0, 1, 1, 0])
        # Shift 1 is left with none: one is missing from 10 to 11.
        self.assertEqual(last(*DAY, ill(1, 1, 0, 2, 1, 1, 2, 2)), [1, 1, 1, 1, 1, 10])
        # Shift 2 is left with none: two are missing from 15 to 19, and one from 25 on (shift 1 has the one before).
        self.assertEqual(last(*DAY, ill(2, 2, 0, 2, 1, 1, 2, 2)), [2, 1, 2, 2, 1, 15])

    def test_none_missing(self):
        self.assertEqual(last(*DAY, ill(0, 1, 0, 3, 1, 1, 2, 2)), [0, 0, 0])
        self.assertEqual(last(*DAY, ill(1, 1000, 0, 9, 1, 1000, 2, 9)), [0, 0, 0])
        self.assertEqual(last(shift(0, 5), ill(0, 3, 0, 3)), [0, 0, 0])

    def test_what_was_missing_before_counts_as_well(self):
        # Nobody is on shift 2; shift 0 is left with 1. Missing: 1 at 0, 2 from 10, 3 from 15, 1 from 20.
        self.assertEqual(last(*DAY, ill(0, 1, 0, 2)), [4, 3, 0, 1, 1, 1, 2, 2, 2, 0, 15])

    def test_too_many_at_one_minute_do_not_help_at_another(self):
        plan = (begin(20), changes(0, 2), shift(0, 10), shift(10, 20))
        self.assertEqual(last(*plan, ill(1, 3, 0, 1000, 1, 4)), [1, 1, 1, 1, 1, 10])

    def test_crews_are_put_on_the_shift_that_least_would_take(self):
        plan = (begin(20), changes(5, 2), shift(0, 20), shift(5, 20), shift(5, 19))
        self.assertEqual(last(*plan, ill(1, 1, 1, 2)), [1, 1, 0, 1, 1, 5])

    def test_several_points_are_short(self):
        plan = (begin(30), changes(0, 1, 20, 3), shift(0, 10), shift(10, 20), shift(20, 30), shift(5, 30))
        # Missing: 1 from 0 and 2 from 20. At 0 one goes on shift 0, at 10 one on 3, at 20 one on 2 (as late as 3).
        self.assertEqual(last(*plan, ill(3, 1, 3, 1, 2, 1)), [3, 3, 0, 1, 2, 1, 3, 1, 2, 0, 20])

    def test_the_crew_that_is_left_is_there(self):
        plan = (begin(20), changes(0, 5), shift(0, 20))
        for k in range(1, 6):
            self.assertEqual(last(*plan, ill(0, k, 0, 5)), [k, 1, 0, k, 1, 0])

    def test_edges(self):
        plan = (begin(20), changes(0, 1000), shift(0, 20))
        self.assertEqual(last(*plan, ill(0, 1000, 0, 1000)), [1000, 1, 0, 1000, 1, 0])
        self.assertEqual(last(*plan, ill(0, 1, 0, 1000)), [1, 1, 0, 1, 1, 0])
        self.assertEqual(last(*plan, ill(0, 1, 0, 1)), [1000, 1, 0, 1000, 1, 0])
        sixty = [shift(0, 5)] * 60
        self.assertEqual(last(*sixty, ill(59, 1, 59, 1)), [0, 0, 0])

    def test_out_of_range(self):
        for j, k in ((-1, 1), (3, 1), (0, 0), (0, 1001), (0, -1), (HUGE, 1), (-HUGE, 1), (0, HUGE), (0, -HUGE)):
            self.assertEqual(last(*DAY, ill(j, k, 0, 2, 1, 1, 2, 2)), [-1], (j, k))
        self.assertEqual(last(ill(0, 1)), [-1])

    def test_lists_not_as_told(self):
        for row in ([0], [0, 2, 1], [0, 2, 3, 1], [0, 2, -1, 1], [0, 2, 1, -1], [0, 2, 1, 1001], [0, 2, 0, 2],
                    [0, 1001], [0, 2, HUGE, 1], [0, 2, -HUGE, 1], [0, HUGE], [0, -HUGE]):
            self.assertEqual(last(*DAY, ill(0, 1, *row)), [-2], row)

    def test_fewer_than_k_on_the_shift(self):
        self.assertEqual(last(*DAY, ill(0, 3, 0, 2, 1, 1, 2, 2)), [-3])
        self.assertEqual(last(*DAY, ill(0, 1, 0, 0, 1, 9)), [-3])
        self.assertEqual(last(*DAY, ill(0, 1000, 0, 999)), [-3])

    def test_a_shift_that_the_list_has_not(self):
        self.assertEqual(last(*DAY, ill(0, 1)), [-3])
        self.assertEqual(last(*DAY, ill(2, 1, 0, 2, 1, 1)), [-3])

    def test_missing_where_no_shift_is(self):
        plan = (begin(20), changes(0, 1), shift(0, 19))
        self.assertEqual(last(*plan, ill(0, 1, 0, 2)), [-7])
        self.assertEqual(last(*plan, changes(0, 1, 19, 0), ill(0, 1, 0, 2)), [0, 0, 0])

    def test_refusals_due_together(self):
        gap = (begin(20), changes(0, 1), shift(0, 19), shift(0, 5))
        self.assertEqual(last(*gap, ill(2, 1, 0)), [-1])
        self.assertEqual(last(*gap, ill(0, 0, 5, 5)), [-1])
        self.assertEqual(last(*gap, ill(0, 1001, 0, 1)), [-1])
        self.assertEqual(last(*gap, ill(2, 1, 0, 1)), [-1])
        self.assertEqual(last(*gap, ill(0, 2, 0, 1, 1)), [-2])
        self.assertEqual(last(*gap, ill(0, 2, 0, 1, 9, 1)), [-2])
        self.assertEqual(last(*gap, ill(0, 1, 0, 1, 9, 1)), [-2])
        self.assertEqual(last(*gap, ill(0, 2, 0, 1)), [-3])
        self.assertEqual(last(*gap, ill(1, 1, 0, 1)), [-3])

    def test_more_than_300_crews_are_no_refusal(self):
        self.assertEqual(last(*DAY, ill(0, 1, 0, 1000, 1, 1000, 2, 1000)), [0, 0, 0])
        self.assertEqual(last(*DAY, covers(0, 1000, 1, 1000, 2, 1000)), [0, 3000])

    def test_changes_nothing(self):
        told = run(*DAY, TOLD, LEAST, ill(0, 1, 0, 2), ill(0, 3, 0, 2), ill(9, 1), ill(0, 1, 0), TOLD, LEAST,
                   ill(0, 1, 0, 2))
        self.assertEqual(told[5:7], told[-3:-1])
        self.assertEqual(told[7], told[-1])


if __name__ == "__main__":
    unittest.main()
