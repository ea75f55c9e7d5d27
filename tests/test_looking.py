"""The questions that only look: need, there, hours, told."""

import unittest

from helper import BACK, HUGE, LEAST, TOLD, begin, changes, hours, last, need, rest, run, shift, there

WRONG_CREWS = ([0], [0, 1, 1], [3, 1], [-1, 1], [0, -1], [0, 1001], [0, 1, 0, 1], [1, 0, 1, 0], [HUGE, 1], [-HUGE, 1],
               [0, HUGE], [0, -HUGE], [0, 1, 1, 1001])
THREE = (begin(40, 5), shift(0, 10), shift(5, 20), shift(30, 40))


class Need(unittest.TestCase):
    def test_the_level_of_the_last_change_not_later(self):
        plan = (begin(40), changes(10, 3, 20, 0, 30, 1000))
        for t, level in ((0, 0), (9, 0), (10, 3), (11, 3), (19, 3), (20, 0), (29, 0), (30, 1000), (39, 1000)):
            self.assertEqual(last(*plan, need(t)), [level], t)

    def test_edges(self):
        self.assertEqual(run(need(0), need(1439), need(1440)), [[0], [0], [-1]])
        self.assertEqual(run(begin(1), changes(0, 1000), need(0), need(1))[2:], [[1000], [-1]])
        self.assertEqual(run(begin(1000000), changes(999999, 7), need(999998), need(999999), need(1000000))[2:],
                         [[0], [7], [-1]])

    def test_out_of_range(self):
        for t in (-1, 40, 41, HUGE, -HUGE):
            self.assertEqual(last(begin(40), changes(0, 5), need(t)), [-1], t)

    def test_new_changes_and_a_new_beginning(self):
        told = run(changes(0, 5), need(7), changes(7, 2), need(7), need(6), changes(0), need(7), begin(9), need(7))
        self.assertEqual(told, [[0], [5], [0], [2], [0], [-2], [2], [0], [0]])

    def test_changes_nothing(self):
        told = run(begin(40), changes(3, 4), shift(0, 9), TOLD, need(3), need(40), TOLD)
        self.assertEqual(told[3], told[-1])


class There(unittest.TestCase):
    def test_with_crews_at_rest(self):
        row = (0, 1, 1, 10, 2, 100)
        wanted = {0: [1, 1], 4: [1, 1], 5: [11, 11], 9: [11, 11], 10: [10, 11], 14: [10, 11], 15: [10, 10],
                  19: [10, 10], 20: [0, 10], 24: [0, 10], 25: [0, 0], 29: [0, 0], 30: [100, 100], 39: [100, 100]}
        for t, right in wanted.items():
            self.assertEqual(last(*THREE, there(t, *row)), right, t)

    def test_without_a_rest(self):
        for t, count in ((0, 1), (9, 11), (10, 10), (19, 10), (20, 0), (29, 0), (30, 100)):
            self.assertEqual(last(*THREE, rest(0), there(t, 0, 1, 1, 10, 2, 100)), [count, count], t)

    def test_the_longest_rest(self):
        self.assertEqual(last(*THREE, rest(1000000), there(39, 0, 1, 1, 10, 2, 100)), [100, 111])
        self.assertEqual(last(begin(1000000, 999998), shift(0, 1), there(999998, 0, 7)), [0, 7])
        self.assertEqual(last(begin(1000000, 999998), shift(0, 1), there(999999, 0, 7)), [0, 0])

    def test_in_any_order_and_not_all_shifts(self):
        self.assertEqual(last(*THREE, there(7, 1, 4, 0, 2)), [6, 6])
        self.assertEqual(last(*THREE, there(7, 1, 4)), [4, 4])
        self.assertEqual(last(*THREE, there(7, 1, 0)), [0, 0])

    def test_edges(self):
        self.assertEqual(run(there(0), there(1439), there(1440)), [[0, 0], [0, 0], [-1]])
        everybody = [number for j in range(60) for number in (j, 1000)]
        self.assertEqual(last(*[shift(0, 5)] * 60, there(4, *everybody)), [60000, 60000])

    def test_out_of_range(self):
        for t in (-1, 40, HUGE, -HUGE):
            self.assertEqual(last(*THREE, there(t, 0, 1)), [-1], t)

    def test_lists_not_as_told(self):
        for row in WRONG_CREWS:
            self.assertEqual(last(*THREE, there(0, *row)), [-2], row)

    def test_refusals_due_together(self):
        self.assertEqual(last(*THREE, there(40, 0)), [-1])
        self.assertEqual(last(*THREE, there(-1, 3, 1)), [-1])

    def test_changes_nothing(self):
        told = run(*THREE, TOLD, there(3, 0, 1), there(40), there(3, 9, 9), TOLD)
        self.assertEqual(told[4], told[-1])


class Hours(unittest.TestCase):
    def test_the_sum_of_the_lengths(self):
        self.assertEqual(last(*THREE, hours(0, 1)), [10])
        self.assertEqual(last(*THREE, hours(1, 1, 0, 2)), [35])
        self.assertEqual(last(*THREE, hours(2, 3, 0, 1, 1, 2)), [70])

    def test_the_rest_makes_no_difference(self):
        self.assertEqual(last(*THREE, rest(1000), hours(0, 1)), [10])

    def test_edges(self):
        self.assertEqual(last(hours()), [0])
        self.assertEqual(last(*THREE, hours()), [0])
        self.assertEqual(last(*THREE, hours(1, 0)), [0])
        everybody = [number for j in range(60) for number in (j, 1000)]
        self.assertEqual(last(begin(1000000), *[shift(0, 1000000)] * 60, hours(*everybody)), [60000000000])

    def test_lists_not_as_told(self):
        for row in WRONG_CREWS:
            self.assertEqual(last(*THREE, hours(*row)), [-2], row)
        self.assertEqual(last(hours(0, 0)), [-2])

    def test_changes_nothing(self):
        told = run(*THREE, TOLD, hours(0, 1), hours(0), TOLD)
        self.assertEqual(told[4], told[-1])


class Told(unittest.TestCase):
    def test_before_the_first_call(self):
        self.assertEqual(run(TOLD), [[1440, 0, 0, 0]])

    def test_after_several_changes(self):
        told = run(begin(40, 5), TOLD, changes(0, 2, 10, 3), TOLD, shift(3, 9), shift(0, 40), TOLD, rest(7), TOLD,
                   changes(5, 1000), TOLD, changes(), TOLD, begin(1, 1000000), TOLD)
        self.assertEqual([told[k] for k in (1, 3, 6, 8, 10, 12, 14)], [
            [40, 5, 0, 0],
            [40, 5, 2, 0, 2, 10, 3, 0],
            [40, 5, 2, 0, 2, 10, 3, 2, 3, 9, 0, 40],
            [40, 7, 2, 0, 2, 10, 3, 2, 3, 9, 0, 40],
            [40, 7, 1, 5, 1000, 2, 3, 9, 0, 40],
            [40, 7, 0, 2, 3, 9, 0, 40],
            [1, 1000000, 0, 0],
        ])

    def test_changes_that_change_no_need_are_told_too(self):
        self.assertEqual(last(changes(0, 0, 3, 0, 4, 5, 6, 5), TOLD), [1440, 0, 4, 0, 0, 3, 0, 4, 5, 6, 5, 0])

    def test_equal_shifts_are_told_each(self):
        self.assertEqual(last(shift(1, 2), shift(1, 2), TOLD), [1440, 0, 0, 2, 1, 2, 1, 2])

    def test_sixty_shifts_and_a_hundred_changes(self):
        row = [number for k in range(100) for number in (k, 1000 - k)]
        told = last(changes(*row), *[shift(k, k + 9) for k in range(60)], TOLD)
        self.assertEqual(told, [1440, 0, 100, *row, 60, *[n for k in range(60) for n in (k, k + 9)]])

    def test_refused_calls_change_nothing(self):
        told = run(begin(40, 5), changes(3, 4), shift(0, 9), TOLD,
                   begin(0, 1), begin(50, -1), changes(0), changes(40, 1), changes(1, 2, 0, 0), shift(0, 41),
                   shift(5, 5), rest(-1), rest(1000001), TOLD)
        self.assertEqual(told[4:], [[-1], [-1], [-2], [-2], [-2], [-1], [-4], [-1], [-1], told[3]])
        sixty = [shift(0, 5)] * 60
        self.assertEqual(last(*sixty, shift(0, 7), TOLD), last(*sixty, TOLD))

    def test_questions_change_nothing(self):
        told = run(*THREE, TOLD, LEAST, BACK, TOLD, TOLD)
        self.assertEqual([told[4], told[4]], told[-2:])


if __name__ == "__main__":
    unittest.main()
