"""The questions: least, back, covers, apart."""

import unittest

from helper import BACK, HUGE, LEAST, apart, begin, changes, covers, last, rest, run, shift

# Needs 2 from 0, 3 from 10, 1 from 20, none from 30; the shifts overlap.
DAY = (begin(40), changes(0, 2, 10, 3, 20, 1, 30, 0), shift(0, 15), shift(5, 25), shift(12, 40))


class LeastAndBack(unittest.TestCase):
    def test_nothing_needed(self):
        self.assertEqual(run(LEAST, BACK), [[0, 0, 0], [0, 0, 0]])
        self.assertEqual(run(shift(0, 9), changes(0, 0, 5, 0), LEAST, BACK)[2:], [[0, 0, 0], [0, 0, 0]])

    def test_overlapping_shifts(self):
        # At 0 two go on shift 0, at 10 one on shift 1, at 15 two on shift 2; 15 is taken, 10 is not
        # (shift 1 has 15), 0 is (shift 0 doesn't).
        self.assertEqual(last(*DAY, LEAST), [5, 3, 0, 2, 1, 1, 2, 2, 2, 0, 15])
        # From the right: at 25 one goes on shift 2, at 15 two on shift 1, at 0 two on shift 0; 0 is taken,
        # 15 is (shift 1 has no 0), 25 is not (shift 2 has 15).
        self.assertEqual(last(*DAY, BACK), [5, 3, 0, 2, 1, 2, 2, 1, 2, 0, 15])

    def test_the_greatest_end_is_taken_and_of_equals_the_least_number(self):
        plan = (begin(20), changes(5, 4, 6, 0), shift(5, 9), shift(0, 12), shift(3, 12), shift(5, 12))
        self.assertEqual(last(*plan, LEAST), [4, 1, 1, 4, 1, 5])

    def test_the_least_begin_is_taken_and_of_equals_the_least_number(self):
        plan = (begin(20), changes(5, 4, 6, 0), shift(5, 20), shift(3, 6), shift(3, 9), shift(3, 20))
        self.assertEqual(last(*plan, BACK), [4, 1, 1, 4, 1, 5])

    def test_equal_shifts(self):
        plan = (begin(20), changes(5, 4), shift(0, 20), shift(0, 20))
        self.assertEqual(run(*plan, LEAST, BACK)[4:], [[4, 1, 0, 4, 1, 5], [4, 1, 0, 4, 1, 5]])

    def test_only_shifts_that_have_the_point(self):
        plan = (begin(20), changes(5, 1, 6, 0), shift(6, 20), shift(0, 5), shift(4, 6))
        self.assertEqual(run(*plan, LEAST, BACK)[5:], [[1, 1, 2, 1, 1, 5], [1, 1, 2, 1, 1, 5]])

    def test_one_shift_twice_short(self):
        plan = (begin(20), changes(0, 1, 5, 3, 8, 2), shift(0, 20))
        self.assertEqual(run(*plan, LEAST, BACK)[3:], [[3, 1, 0, 3, 1, 5], [3, 1, 0, 3, 1, 5]])

    def test_the_two_ends_may_differ(self):
        plan = (begin(30), changes(10, 1, 20, 0), shift(0, 20), shift(10, 30))
        self.assertEqual(run(*plan, LEAST, BACK)[4:], [[1, 1, 1, 1, 1, 10], [1, 1, 0, 1, 1, 10]])

    def test_the_witnesses_may_differ(self):
        plan = (begin(6), changes(0, 1), shift(0, 4), shift(3, 6), shift(2, 5))
        # Rising, 0 and 4 are short. Falling, 5 is short, shift 1 then has 4 and 3, and so 2 is short.
        self.assertEqual(run(*plan, LEAST, BACK)[5:], [[2, 2, 0, 1, 1, 1, 2, 0, 4], [2, 2, 0, 1, 1, 1, 2, 2, 5]])

    def test_witness_rises_from_either_end(self):
        plan = (begin(9), changes(0, 2), shift(6, 9), shift(3, 6), shift(0, 3))
        both = [6, 3, 0, 2, 1, 2, 2, 2, 3, 0, 3, 6]
        self.assertEqual(run(*plan, LEAST, BACK)[5:], [both, both])

    def test_points_at_the_horizon_do_not_count(self):
        plan = (begin(10), changes(0, 1), shift(0, 10))
        self.assertEqual(run(*plan, LEAST, BACK)[3:], [[1, 1, 0, 1, 1, 0], [1, 1, 0, 1, 1, 0]])

    def test_minute_0_without_a_change_there(self):
        plan = (begin(10), changes(4, 5), shift(4, 10))
        self.assertEqual(run(*plan, LEAST, BACK)[3:], [[5, 1, 0, 5, 1, 4], [5, 1, 0, 5, 1, 4]])

    def test_the_last_minute(self):
        plan = (begin(10), changes(9, 1), shift(0, 10), shift(9, 10))
        self.assertEqual(run(*plan, LEAST, BACK)[4:], [[1, 1, 0, 1, 1, 9], [1, 1, 0, 1, 1, 9]])

    def test_no_shift_has_it(self):
        for plan in ((changes(0, 1),),
                     (begin(10), changes(0, 1), shift(0, 9)),
                     (begin(10), changes(0, 1), shift(1, 10)),
                     (begin(10), changes(0, 1), shift(0, 5), shift(6, 10)),
                     (begin(10), changes(3, 1, 4, 0), shift(0, 3), shift(4, 10))):
            self.assertEqual(run(*plan, LEAST, BACK)[-2:], [[-7], [-7]], plan)

    def test_no_shift_is_needed_where_nobody_is(self):
        plan = (begin(10), changes(3, 1, 4, 0), shift(3, 4))
        self.assertEqual(run(*plan, LEAST, BACK)[3:], [[1, 1, 0, 1, 1, 3], [1, 1, 0, 1, 1, 3]])

    def test_refused_changes_nothing(self):
        told = run(begin(10), changes(0, 1), shift(0, 9), LEAST, BACK, shift(9, 10), LEAST)
        self.assertEqual(told[3:], [[-7], [-7], [1], [2, 2, 0, 1, 1, 1, 2, 0, 9]])

    def test_more_crews_than_a_list_of_crews_may_tell(self):
        plan = (begin(4), changes(0, 1000, 1, 0, 2, 1000), shift(0, 1), shift(2, 3), shift(3, 4))
        self.assertEqual(last(*plan, LEAST), [3000, 3, 0, 1000, 1, 1000, 2, 1000, 3, 0, 2, 3])

    def test_the_rest_makes_no_difference(self):
        self.assertEqual(last(*DAY, rest(1000000), LEAST), last(*DAY, LEAST))


class Covers(unittest.TestCase):
    def test_enough(self):
        self.assertEqual(last(*DAY, covers(0, 2, 1, 1, 2, 2)), [0, 5])
        self.assertEqual(last(*DAY, covers(2, 9, 0, 2, 1, 1000)), [0, 1011])

    def test_too_few(self):
        self.assertEqual(last(*DAY, covers(0, 2, 1, 1, 2, 1)), [1, 15, 1])
        self.assertEqual(last(*DAY, covers(0, 2, 2, 9)), [1, 10, 1])
        self.assertEqual(last(*DAY, covers(1, 3, 2, 3)), [1, 0, 2])
        self.assertEqual(last(*DAY, covers(0, 3, 1, 0)), [1, 15, 3])
        self.assertEqual(last(*DAY, covers(0, 2, 1, 3)), [1, 25, 1])

    def test_the_first_minute_is_told(self):
        self.assertEqual(last(begin(10), changes(4, 7, 5, 9), covers()), [1, 4, 7])
        self.assertEqual(last(begin(10), changes(9, 1), shift(0, 9), covers(0, 1)), [1, 9, 1])
        self.assertEqual(last(begin(10), changes(0, 1), shift(1, 10), covers(0, 1)), [1, 0, 1])

    def test_empty_list(self):
        self.assertEqual(last(covers()), [0, 0])
        self.assertEqual(last(shift(0, 5), changes(0, 0), covers()), [0, 0])
        self.assertEqual(last(shift(0, 5), changes(0, 2), covers()), [1, 0, 2])

    def test_edges(self):
        self.assertEqual(last(changes(0, 1000), shift(0, 1440), covers(0, 1000)), [0, 1000])
        self.assertEqual(last(changes(0, 1000), shift(0, 1440), covers(0, 999)), [1, 0, 1])
        self.assertEqual(last(shift(0, 5), covers(0, 0)), [0, 0])
        self.assertEqual(last(*[shift(0, 5)] * 60, covers(59, 1)), [0, 1])

    def test_no_shift_that_has_it_is_no_refusal(self):
        self.assertEqual(last(begin(10), changes(0, 1), covers()), [1, 0, 1])

    def test_lists_not_as_told(self):
        wrong = ([0], [0, 1, 1], [2, 1], [-1, 1], [0, -1], [0, 1001], [0, 1, 0, 1], [0, 0, 0, 0], [0, 1, 1, 1, 0, 1],
                 [HUGE, 1], [-HUGE, 1], [0, HUGE], [0, -HUGE], [0, 1, 1, 1001])
        for row in wrong:
            self.assertEqual(run(shift(0, 5), shift(0, 5), changes(0, 1), covers(*row))[3], [-2], row)

    def test_changes_nothing(self):
        told = run(*DAY, LEAST, covers(0, 9), covers(0), apart(0, 1), LEAST, BACK)
        self.assertEqual(told[-2], last(*DAY, LEAST))
        self.assertEqual(told[-1], last(*DAY, BACK))


class Apart(unittest.TestCase):
    def test_sum_of_the_needs(self):
        self.assertEqual(last(*DAY, apart(0, 15)), [0, 5])
        self.assertEqual(last(*DAY, apart(39, 4)), [0, 2])
        self.assertEqual(last(*DAY, apart(10)), [0, 3])

    def test_a_shift_that_has_two(self):
        self.assertEqual(last(*DAY, apart(0, 14)), [1, 0, 0, 14])
        self.assertEqual(last(*DAY, apart(39, 12)), [1, 2, 39, 12])

    def test_the_least_shift_is_told(self):
        self.assertEqual(last(*DAY, apart(39, 24, 14, 20, 13)), [1, 0, 14, 13])
        self.assertEqual(last(*DAY, apart(39, 24, 20)), [1, 1, 24, 20])

    def test_the_first_two_of_the_list(self):
        self.assertEqual(last(*DAY, apart(30, 7, 14, 3, 0)), [1, 0, 7, 14])

    def test_a_shift_has_its_beginning_and_not_its_end(self):
        self.assertEqual(last(shift(5, 8), apart(5, 8)), [0, 0])
        self.assertEqual(last(shift(5, 8), apart(4, 7)), [0, 0])
        self.assertEqual(last(shift(5, 8), apart(7, 5)), [1, 0, 7, 5])

    def test_edges(self):
        self.assertEqual(last(apart()), [0, 0])
        self.assertEqual(last(*DAY, apart()), [0, 0])
        self.assertEqual(last(begin(10), changes(0, 1000), apart(0, 9)), [0, 2000])
        self.assertEqual(last(begin(10), shift(0, 10), apart(0, 9)), [1, 0, 0, 9])
        self.assertEqual(last(begin(2000), changes(0, 1), apart(*range(1997))), [0, 1997])

    def test_lists_not_as_told(self):
        for row in ([10], [-1], [3, 3], [1, 2, 1], [HUGE], [-HUGE], [0, 9, 10]):
            self.assertEqual(run(begin(10), shift(0, 10), apart(*row), apart(4))[2:], [[-2], [0, 0]], row)


if __name__ == "__main__":
    unittest.main()
