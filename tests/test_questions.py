"""fit, bounds, early, late, tried, shown."""

import unittest

from tests.helper import (BILLION, FAR, ask, begin, bounds, drop, early, fit, last, late, say, shown, take, tried)


def chain(n, lo, hi):
    """Statements with the keys 1 to n - 1, each from an event to the one behind it."""
    return [say(i + 1, 1, i, i + 1, lo, hi) for i in range(n - 1)]


class Fit(unittest.TestCase):
    def test_no_statements(self):
        self.assertEqual(last(begin(24), fit()), [1])

    def test_one_statement_can_always_be_true(self):
        self.assertEqual(last(say(1, 1, 0, 1, 5, 5), fit()), [1])
        self.assertEqual(last(say(1, 1, 0, 1, -5, -5), fit()), [1])

    def test_ends_that_touch_and_ends_that_do_not(self):
        self.assertEqual(last(say(1, 1, 0, 1, 0, 5), say(2, 1, 0, 1, 5, 9), fit()), [1])
        self.assertEqual(last(say(1, 1, 0, 1, 0, 5), say(2, 1, 0, 1, 6, 9), fit()), [0])

    def test_over_other_events(self):
        around = chain(24, 1, 1)
        self.assertEqual(last(begin(24), *around, say(50, 1, 0, 23, 23, 23), fit()), [1])
        self.assertEqual(last(begin(24), *around, say(50, 1, 0, 23, 24, 30), fit()), [0])
        self.assertEqual(last(begin(24), *around, say(50, 1, 0, 23, 0, 22), fit()), [0])

    def test_where_event_0_has_no_part(self):
        said = [begin(6), say(1, 1, 3, 4, 1, 2), say(2, 1, 4, 5, 1, 2), say(3, 1, 5, 3, 1, 2)]
        self.assertEqual(ask(*said, fit(), take(3), fit())[4:], [[0], [0], [1]])


class Bounds(unittest.TestCase):
    def test_of_one_statement(self):
        self.assertEqual(ask(say(1, 1, 0, 1, 3, 10), bounds(0, 1), bounds(1, 0))[1:], [[1, 3, 1, 10], [1, -10, 1, -3]])

    def test_below_0(self):
        self.assertEqual(ask(say(1, 1, 0, 1, -10, -3), bounds(0, 1), bounds(1, 0))[1:],
                         [[1, -10, 1, -3], [1, 3, 1, 10]])

    def test_a_bound_of_0_is_not_open(self):
        self.assertEqual(ask(say(1, 1, 0, 1, 0, 0), bounds(0, 1), bounds(1, 0))[1:], [[1, 0, 1, 0], [1, 0, 1, 0]])

    def test_open_ends(self):
        self.assertEqual(last(bounds(0, 1)), [0, 0, 0, 0])
        self.assertEqual(last(begin(4), say(1, 1, 0, 1, 3, 10), say(2, 1, 2, 3, 3, 10), bounds(1, 2)), [0, 0, 0, 0])

    def test_a_equal_to_b(self):
        for said in ([], [say(1, 1, 0, 1, 3, 10)], [say(1, 1, 0, 1, -10, -3)]):
            self.assertEqual(ask(*said, bounds(0, 0), bounds(1, 1))[-2:], [[1, 0, 1, 0]] * 2)

    def test_over_others(self):
        said = [begin(3), say(1, 1, 0, 1, 3, 10), say(2, 1, 1, 2, -5, 5)]
        self.assertEqual(last(*said, bounds(0, 2)), [1, -2, 1, 15])
        self.assertEqual(last(*said, bounds(2, 0)), [1, -15, 1, 2])

    def test_the_least_of_several_ways(self):
        said = [begin(3), say(1, 1, 0, 1, 3, 10), say(2, 1, 1, 2, -5, 5), say(3, 1, 2, 0, -12, 20)]
        self.assertEqual(ask(*said, bounds(0, 2), bounds(0, 1), bounds(1, 2))[4:],
                         [[1, -2, 1, 12], [1, 3, 1, 10], [1, -5, 1, 5]])

    def test_over_all_events_along_and_against_the_order_of_keys(self):
        rising = [say(i + 1, 1, i, i + 1, -BILLION, BILLION) for i in range(23)]
        falling = [say(100 - i, 1, i, i + 1, -BILLION, BILLION) for i in range(23)]
        for said in (rising, falling):
            self.assertEqual(ask(begin(24), *said, bounds(0, 23), bounds(23, 0))[24:],
                             [[1, -23 * BILLION, 1, 23 * BILLION]] * 2)


class EarlyAndLate(unittest.TestCase):
    said = [begin(4), say(1, 1, 0, 1, 3, 10), say(2, 1, 2, 1, -5, 4)]

    def test_of_each_event(self):
        self.assertEqual(ask(*self.said, early(0), late(0))[3:],
                         [[1, 0, 1, 3, 1, -1, 0, 0], [1, 0, 1, 10, 1, 15, 0, 0]])
        self.assertEqual(ask(*self.said, early(1), late(1))[3:],
                         [[1, -10, 1, 0, 1, -4, 0, 0], [1, -3, 1, 0, 1, 5, 0, 0]])
        self.assertEqual(ask(*self.said, early(2), late(2))[3:],
                         [[1, -15, 1, -5, 1, 0, 0, 0], [1, 1, 1, 4, 1, 0, 0, 0]])

    def test_an_event_that_no_statement_reaches(self):
        self.assertEqual(ask(*self.said, early(3), late(3))[3:], [[0] * 6 + [1, 0]] * 2)

    def test_none_reached_but_itself(self):
        self.assertEqual(ask(begin(24), early(0), late(23))[1:], [[1, 0] + [0] * 46, [0] * 46 + [1, 0]])

    def test_they_are_the_two_numbers_of_bounds(self):
        for o in range(4):
            told = ask(*self.said, early(o), late(o), *[bounds(o, i) for i in range(4)])[3:]
            for i in range(4):
                self.assertEqual(told[0][2 * i:2 * i + 2] + told[1][2 * i:2 * i + 2], told[2 + i])


class Tried(unittest.TestCase):
    said = [begin(3), say(5, 1, 0, 1, 3, 10), say(9, 2, 1, 2, -4, 4), say(2, 3, 2, 0, -20, 0)]

    def test_all_true(self):
        self.assertEqual(last(*self.said, tried(0, 5, 5)), [0])
        self.assertEqual(last(*self.said, tried(-100, -95, -95)), [0])

    def test_both_ends_are_included(self):
        one = say(1, 1, 0, 1, 3, 10)
        self.assertEqual(ask(one, tried(0, 3), tried(0, 10), tried(0, 2), tried(0, 11))[1:], [[0], [0], [1, 1], [1, 1]])
        self.assertEqual(ask(one, tried(7, 10), tried(7, 9), tried(FAR, FAR - 3))[1:], [[0], [1, 1], [1, 1]])

    def test_the_time_of_b_less_that_of_a(self):
        self.assertEqual(ask(say(1, 1, 1, 0, 3, 10), tried(5, 0), tried(0, 5))[1:], [[0], [1, 1]])

    def test_the_least_key_of_those_that_are_not_true(self):
        self.assertEqual(last(*self.said, tried(0, 20, 0)), [1, 5])
        self.assertEqual(last(*self.said, tried(0, 5, 10)), [1, 9])
        self.assertEqual(last(*self.said, tried(0, 50, 100)), [1, 2])
        self.assertEqual(last(*self.said, take(2), tried(0, 50, 100)), [1, 5])
        self.assertEqual(last(*self.said, take(2), drop(1), tried(0, 50, 100)), [1, 9])

    def test_where_they_can_not_all_be_true(self):
        self.assertEqual(ask(say(1, 1, 0, 1, 5, 5), say(2, 1, 0, 1, 6, 6), tried(0, 5), tried(0, 6))[2:],
                         [[1, 2], [1, 1]])

    def test_no_statement(self):
        self.assertEqual(last(begin(3), tried(-FAR, FAR, 0)), [0])

    def test_another_count_of_times(self):
        for times in ((), (0,), (0, 5), (0, 5, 5, 5), (0,) * 24, (0,) * 2000):
            self.assertEqual(last(*self.said, tried(*times)), [-2])
        self.assertEqual(last(tried(0, 0)), [0])
        self.assertEqual(last(begin(24), tried(*[0] * 24)), [0])
        self.assertEqual(last(begin(24), tried(*[0] * 23)), [-2])

    def test_the_farthest_times(self):
        self.assertEqual(last(say(1, 1, 0, 1, -BILLION, BILLION), tried(-FAR, FAR)), [1, 1])


class Shown(unittest.TestCase):
    def test_no_statement(self):
        self.assertEqual(last(begin(3), shown(1)), [FAR, 0, FAR])

    def test_events_reached_from_a(self):
        said = [begin(3), say(1, 1, 0, 1, 3, 10), say(2, 1, 1, 2, -5, -2)]
        self.assertEqual(ask(*said, shown(0), shown(1), shown(2))[3:], [[0, 10, 8], [-3, 0, -2], [2, 5, 0]])

    def test_events_that_no_statement_reaches_and_those_reached_over_others(self):
        said = [begin(5), say(1, 1, 0, 1, 3, 10), say(2, 1, 2, 3, -7, -4)]
        # 3 is at least 4 below 2, so from 0 and 4 it is reached over 2, by the far edge and then one of weight -4.
        self.assertEqual(last(*said, shown(0)), [0, 10, FAR, FAR - 4, FAR])
        self.assertEqual(last(*said, shown(4)), [FAR - 3, FAR, FAR, FAR - 4, 0])
        self.assertEqual(last(*said, shown(3)), [FAR - 3, FAR, 7, 0, FAR])

    def test_a_far_edge_and_then_several(self):
        said = [begin(5), *[say(i, 1, i, i + 1, -9, -i) for i in range(1, 4)]]
        self.assertEqual(last(*said, shown(0)), [0, FAR, FAR - 1, FAR - 3, FAR - 6])

    def test_the_farthest_from_a(self):
        self.assertEqual(last(begin(24), *chain(24, -BILLION, BILLION), shown(0)), [i * BILLION for i in range(24)])
        self.assertEqual(last(begin(24), *chain(24, -BILLION, -BILLION), shown(0)), [-i * BILLION for i in range(24)])
        self.assertEqual(last(begin(24), *chain(24, -BILLION, -BILLION)[1:], shown(0)),
                         [0] + [FAR - i * BILLION for i in range(23)])

    def test_the_times_fit_all_statements(self):
        said = [begin(5), say(1, 1, 0, 1, 3, 10), say(2, 1, 2, 3, -7, -4), say(3, 1, 4, 2, 1, 1),
                say(4, 1, 1, 0, -5, 0)]
        for a in range(5):
            self.assertEqual(last(*said, tried(*last(*said, shown(a)))), [0])


if __name__ == "__main__":
    unittest.main()
