"""The calls that change: begin, changes, shift, rest; and what there is before the first call."""

import unittest

from helper import BACK, HUGE, LEAST, TOLD, apart, begin, changes, covers, last, rest, run, shift


class BeforeTheFirstCall(unittest.TestCase):
    def test_horizon_is_1440(self):
        self.assertEqual(run(shift(0, 1441), shift(0, 1440)), [[-1], [0]])
        self.assertEqual(run(changes(1440, 1), changes(1439, 1)), [[-2], [0]])

    def test_rest_is_0(self):
        self.assertEqual(run(TOLD)[0][1], 0)

    def test_no_changes_and_no_shifts(self):
        self.assertEqual(run(LEAST, BACK, covers(), apart(0, 1439)), [[0, 0, 0], [0, 0, 0], [0, 0], [0, 0]])
        self.assertEqual(run(covers(0, 1), shift(3, 4)), [[-2], [0]])


class Begin(unittest.TestCase):
    def test_edges(self):
        self.assertEqual(run(begin(1, 0), begin(1000000, 1000000)), [[0], [0]])
        for h, minutes in ((0, 0), (1000001, 0), (1, -1), (1, 1000001), (HUGE, 0), (-HUGE, 0), (5, HUGE), (5, -HUGE)):
            self.assertEqual(run(begin(h, minutes)), [[-1]], (h, minutes))

    def test_horizon_1(self):
        told = run(begin(1), changes(0, 7), shift(0, 1), shift(1, 1), shift(0, 2), LEAST, BACK, apart(0), apart(1))
        self.assertEqual(told, [[0], [0], [0], [-4], [-1], [7, 1, 0, 7, 1, 0], [7, 1, 0, 7, 1, 0], [0, 7], [-2]])

    def test_horizon_1000000(self):
        told = run(begin(1000000), changes(999999, 3), shift(999999, 1000000), shift(0, 1000000), LEAST, BACK)
        self.assertEqual(told[3:], [[1], [3, 1, 0, 3, 1, 999999], [3, 1, 1, 3, 1, 999999]])

    def test_takes_changes_and_shifts_away(self):
        told = run(changes(0, 2), shift(0, 1440), LEAST, begin(50), LEAST, covers(0, 1), shift(0, 51), shift(0, 50),
                   LEAST)
        self.assertEqual(told, [[0], [0], [2, 1, 0, 2, 1, 0], [0], [0, 0, 0], [-2], [-1], [0], [0, 0, 0]])

    def test_sets_the_rest(self):
        self.assertEqual(run(begin(10, 20), TOLD), [[0], [10, 20, 0, 0]])

    def test_refused_changes_nothing(self):
        for wrong in (begin(0, 5), begin(10, -1)):
            told = run(begin(100), changes(5, 2), shift(0, 100), wrong, LEAST, shift(0, 100), shift(0, 101))
            self.assertEqual(told[3:], [[-1], [2, 1, 0, 2, 1, 5], [1], [-1]])
        self.assertEqual(last(begin(10, 20), begin(0, 30), begin(30, 1000001), TOLD), [10, 20, 0, 0])


class Changes(unittest.TestCase):
    def test_need_is_the_level_of_the_last_change_not_later(self):
        told = run(begin(100), changes(10, 3, 20, 0, 30, 1000),
                   apart(0), apart(9), apart(10), apart(19), apart(20), apart(29), apart(30), apart(99))
        self.assertEqual(told[1:], [[0], [0, 0], [0, 0], [0, 3], [0, 3], [0, 0], [0, 0], [0, 1000], [0, 1000]])

    def test_put_in_the_place_of_those_before(self):
        self.assertEqual(run(changes(0, 1, 5, 2), changes(7, 3), apart(0, 5, 7))[-1], [0, 3])
        self.assertEqual(run(changes(0, 1, 5, 2), changes(), apart(0, 5, 7)), [[0], [0], [0, 0]])

    def test_edges(self):
        self.assertEqual(run(begin(10), changes(0, 0), changes(9, 1000), changes(0, 1000, 9, 0)), [[0]] * 4)
        self.assertEqual(last(begin(10), changes(9, 1000), apart(8, 9)), [0, 1000])

    def test_a_hundred_changes_and_one_more(self):
        hundred = [number for k in range(100) for number in (k, k % 7)]
        told = run(changes(*hundred), changes(*hundred, 100, 1), apart(5, 99, 100, 1439))
        self.assertEqual(told, [[0], [-2], [0, 5 + 3 * (99 % 7)]])

    def test_lists_not_as_told(self):
        wrong = ([0], [0, 1, 5], [10, 1], [-1, 1], [0, 1001], [0, -1], [5, 1, 4, 1], [5, 1, 5, 1], [5, 1, 5, 2],
                 [3, 1, 6, 1, 4, 1], [HUGE, 1], [-HUGE, 1], [0, HUGE], [0, -HUGE], [0, 1, 5, 1001])
        for row in wrong:
            told = run(begin(10), changes(2, 4), changes(*row), apart(0, 2, 9))
            self.assertEqual(told[2:], [[-2], [0, 8]], row)


class Shift(unittest.TestCase):
    def test_numbers_rise_from_0(self):
        self.assertEqual(run(shift(0, 5), shift(0, 5), shift(2, 3)), [[0], [1], [2]])

    def test_edges(self):
        self.assertEqual(run(begin(10), shift(0, 10), shift(9, 10), shift(0, 1)), [[0], [0], [1], [2]])

    def test_out_of_range(self):
        for a, b in ((-1, 5), (0, 11), (11, 10), (5, -1), (HUGE, 5), (-HUGE, 5), (0, HUGE), (0, -HUGE), (11, 12)):
            self.assertEqual(run(begin(10), shift(a, b), shift(0, 1))[1:], [[-1], [0]], (a, b))

    def test_b_not_greater_than_a(self):
        for a, b in ((0, 0), (10, 10), (5, 4), (10, 0)):
            self.assertEqual(run(begin(10), shift(a, b), shift(0, 1))[1:], [[-4], [0]], (a, b))

    def test_sixty_shifts_and_one_more(self):
        told = run(*[shift(k, k + 1) for k in range(60)], shift(0, 1), changes(0, 1, 1, 0), LEAST, covers(60, 1))
        self.assertEqual(told, [[k] for k in range(60)] + [[-6], [0], [1, 1, 0, 1, 1, 0], [-2]])

    def test_refusals_due_together(self):
        sixty = [shift(0, 5)] * 60
        self.assertEqual(last(*sixty, shift(5, 5)), [-4])
        self.assertEqual(last(*sixty, shift(1441, 5)), [-1])
        self.assertEqual(last(*sixty, shift(5, -1)), [-1])
        self.assertEqual(last(*sixty, shift(0, 5)), [-6])
        self.assertEqual(last(shift(5, -1)), [-1])

    def test_begin_makes_room(self):
        self.assertEqual(last(*[shift(0, 5)] * 60, begin(5), shift(0, 5)), [0])


class Rest(unittest.TestCase):
    def test_edges(self):
        self.assertEqual(run(rest(0), rest(1000000), rest(-1), rest(1000001), rest(HUGE), rest(-HUGE)),
                         [[0], [0], [-1], [-1], [-1], [-1]])

    def test_is_kept_and_a_refused_one_is_not(self):
        calls = []
        for minutes, kept in ((60, 60), (-1, 60), (1000001, 60), (1000000, 1000000), (0, 0)):
            calls.append(rest(minutes))
            self.assertEqual(last(*calls, TOLD), [1440, kept, 0, 0])

    def test_changes_nothing_else(self):
        told = run(begin(100), changes(5, 2), shift(0, 100), rest(30), LEAST, shift(0, 100), shift(0, 101))
        self.assertEqual(told[3:], [[0], [2, 1, 0, 2, 1, 5], [1], [-1]])


if __name__ == "__main__":
    unittest.main()
