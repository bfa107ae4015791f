"""why, needless, if_of, slack, pinned, order, web."""

import unittest

from tests.helper import (BILLION, ask, begin, bounds, drop, fit, give, if_of, last, needless, order, pinned, say,
                          slack, take, told, web, why)

CHAIN = [begin(3), say(1, 1, 0, 1, 3, 10), say(2, 1, 1, 2, -5, 5)]


class Why(unittest.TestCase):
    def test_of_one_statement(self):
        self.assertEqual(ask(say(4, 1, 0, 1, 3, 10), why(0, 1), why(1, 0))[1:], [[1, 10, 1, 4, 0], [1, -3, 1, 4, 1]])
        self.assertEqual(ask(say(4, 1, 1, 0, 3, 10), why(0, 1), why(1, 0))[1:], [[1, -3, 1, 4, 1], [1, 10, 1, 4, 0]])

    def test_open(self):
        self.assertEqual(last(why(0, 1)), [0])
        said = [begin(4), say(1, 1, 0, 1, 3, 10), say(2, 1, 2, 3, 3, 10)]
        self.assertEqual(ask(*said, why(1, 2), why(3, 0))[3:], [[0], [0]])

    def test_a_bound_of_0_is_not_open(self):
        self.assertEqual(ask(say(4, 1, 0, 1, 0, 0), why(0, 1), why(1, 0))[1:], [[1, 0, 1, 4, 0], [1, 0, 1, 4, 1]])

    def test_from_an_event_to_itself_no_edge_is_needed(self):
        for said in ([], [say(1, 1, 0, 1, 3, 10)], [say(1, 1, 0, 1, 5, 5)], [say(1, 1, 0, 1, 0, 0)]):
            self.assertEqual(ask(*said, why(0, 0), why(1, 1))[-2:], [[1, 0, 0]] * 2)

    def test_over_others(self):
        self.assertEqual(ask(*CHAIN, why(0, 2), why(2, 0))[3:], [[1, 15, 2, 1, 0, 2, 0], [1, 2, 2, 2, 1, 1, 1]])

    def test_the_least_sum_goes_ahead_of_fewer_edges(self):
        said = [begin(3), say(1, 1, 0, 1, -50, 4), say(2, 1, 1, 2, -50, 6)]
        self.assertEqual(last(*said, say(9, 1, 0, 2, -50, 11), why(0, 2)), [1, 10, 2, 1, 0, 2, 0])

    def test_fewer_edges_go_ahead_of_the_order_of_edges(self):
        said = [begin(3), say(1, 1, 0, 1, -50, 4), say(2, 1, 1, 2, -50, 6)]
        self.assertEqual(last(*said, say(9, 1, 0, 2, -50, 10), why(0, 2)), [1, 10, 1, 9, 0])

    def test_the_first_by_the_first_edge(self):
        said = [say(5, 1, 0, 1, -9, 5), say(3, 1, 0, 1, -8, 5), say(10, 1, 1, 0, -5, 9), say(2, 1, 0, 1, -9, 6)]
        self.assertEqual(last(*said, why(0, 1)), [1, 5, 1, 3, 0])
        self.assertEqual(last(*said, take(3), why(0, 1)), [1, 5, 1, 5, 0])
        self.assertEqual(last(*said, take(3), take(5), why(0, 1)), [1, 5, 1, 10, 1])

    def test_keys_are_compared_as_numbers(self):
        self.assertEqual(last(say(10, 1, 0, 1, -9, 5), say(9, 1, 0, 1, -9, 5), why(0, 1)), [1, 5, 1, 9, 0])

    def test_the_first_by_a_later_edge(self):
        said = [begin(3), say(4, 1, 0, 1, -50, 5), say(7, 1, 1, 2, -50, 5), say(6, 1, 1, 2, -50, 5)]
        self.assertEqual(last(*said, why(0, 2)), [1, 10, 2, 4, 0, 6, 0])

    def test_the_first_edge_goes_ahead_of_all_later_ones(self):
        over = [begin(4), say(2, 1, 0, 2, -50, 5), say(3, 1, 2, 3, -50, 5), say(1, 1, 0, 1, -50, 5)]
        self.assertEqual(last(*over, say(9, 1, 1, 3, -50, 5), why(0, 3)), [1, 10, 2, 1, 0, 9, 0])
        self.assertEqual(last(*over, say(9, 1, 1, 3, -50, 6), why(0, 3)), [1, 10, 2, 2, 0, 3, 0])
        # A later edge that is dearer may lie behind a first edge that is cheaper.
        over[3] = say(1, 1, 0, 1, -50, 2)
        self.assertEqual(last(*over, say(9, 1, 1, 3, -50, 8), why(0, 3)), [1, 10, 2, 1, 0, 9, 0])

    def test_of_ways_with_sums_below_0(self):
        said = [begin(3), say(1, 1, 0, 1, -9, -4), say(2, 1, 1, 2, -9, -4), say(3, 1, 0, 2, -50, -7)]
        self.assertEqual(ask(*said, why(0, 2), why(2, 0))[4:], [[1, -8, 2, 1, 0, 2, 0], [1, 18, 2, 2, 1, 1, 1]])

    def test_over_all_events(self):
        said = [say(100 - i, 1, i, i + 1, -BILLION, BILLION) for i in range(23)]
        there = [number for i in range(23) for number in (100 - i, 0)]
        back = [number for i in range(22, -1, -1) for number in (100 - i, 1)]
        self.assertEqual(ask(begin(24), *said, why(0, 23), why(23, 0))[24:],
                         [[1, 23 * BILLION, 23] + there, [1, 23 * BILLION, 23] + back])

    def test_only_what_stands(self):
        said = [say(1, 1, 0, 1, 0, 5), say(2, 2, 0, 1, 0, 9)]
        self.assertEqual(ask(*said, take(1), why(0, 1), drop(2), why(0, 1), give(1), why(0, 1))[2:],
                         [[0], [1, 9, 1, 2, 0], [0, 1], [0], [0], [1, 5, 1, 1, 0]])


class Needless(unittest.TestCase):
    def check_second(self, said, lo, hi, answer):
        """Whether a statement from event 0 to the last follows from said."""
        events = said[0][1]
        self.assertEqual(last(*said, say(50, 1, 0, events - 1, lo, hi), needless(50)), [answer], (lo, hi))
        self.assertEqual(last(*said, say(50, 1, events - 1, 0, -hi, -lo), needless(50)), [answer], (lo, hi))

    def test_beside_one_of_the_same_events(self):
        said = [begin(2), say(1, 1, 0, 1, 3, 10)]
        for lo, hi, answer in ((3, 10, 1), (2, 11, 1), (3, 11, 1), (2, 10, 1), (4, 10, 0), (3, 9, 0), (4, 11, 0),
                               (2, 9, 0), (5, 5, 0), (-BILLION, BILLION, 1)):
            self.check_second(said, lo, hi, answer)

    def test_over_others(self):
        for lo, hi, answer in ((-2, 15, 1), (-3, 16, 1), (-1, 15, 0), (-2, 14, 0)):
            self.check_second(CHAIN, lo, hi, answer)

    def test_both_ends_from_different_ways(self):
        said = [begin(3), say(1, 1, 0, 1, 3, 10), say(2, 1, 1, 2, -5, 5), say(3, 1, 0, 2, 4, 90)]
        self.check_second(said, 4, 15, 1)
        self.check_second(said, 5, 15, 0)

    def test_by_itself_it_does_not_follow(self):
        self.assertEqual(last(say(1, 1, 0, 1, -BILLION, BILLION), needless(1)), [0])
        self.assertEqual(ask(*CHAIN, needless(1), needless(2))[3:], [[0], [0]])

    def test_of_two_that_say_the_same_each_is_needless(self):
        self.assertEqual(ask(say(1, 1, 0, 1, 3, 10), say(2, 1, 0, 1, 3, 10), needless(1), needless(2))[2:], [[1], [1]])

    def test_others_taken_back_do_not_count(self):
        self.assertEqual(ask(say(1, 1, 0, 1, 3, 10), say(2, 1, 0, 1, 0, 20), take(1), needless(2), give(1),
                             needless(2))[3:], [[0], [0], [1]])

    def test_refused(self):
        said = [say(1, 1, 0, 1, 3, 10), say(2, 1, 0, 1, 0, 20), take(2)]
        self.assertEqual(ask(*said, needless(3), needless(2), needless(1))[3:], [[-10], [-7], [0]])


class If(unittest.TestCase):
    def test_beside_one_of_the_same_events(self):
        said = say(1, 1, 0, 1, 3, 10)
        for lo, hi, answer in ((3, 10, 1), (2, 11, 1), (-BILLION, BILLION, 1), (4, 10, 0), (3, 9, 0), (10, 10, 0),
                               (3, 3, 0), (10, 99, 0), (-9, 3, 0), (11, 99, 2), (-9, 2, 2), (11, 11, 2)):
            self.assertEqual(last(said, if_of(0, 1, lo, hi)), [answer], (lo, hi))
            self.assertEqual(last(said, if_of(1, 0, -hi, -lo)), [answer], (lo, hi))

    def test_over_others(self):
        for lo, hi, answer in ((-2, 15, 1), (-1, 15, 0), (-2, 14, 0), (15, 99, 0), (-99, -2, 0), (16, 99, 2),
                               (-99, -3, 2)):
            self.assertEqual(last(*CHAIN, if_of(0, 2, lo, hi)), [answer], (lo, hi))
            self.assertEqual(last(*CHAIN, if_of(2, 0, -hi, -lo)), [answer], (lo, hi))

    def test_open(self):
        self.assertEqual(last(if_of(0, 1, -BILLION, BILLION)), [0])
        self.assertEqual(last(if_of(1, 0, BILLION, BILLION)), [0])
        self.assertEqual(last(begin(3), say(1, 1, 0, 1, 3, 10), if_of(0, 2, 5, 5)), [0])

    def test_nothing_is_said_by_it(self):
        said = [say(k, 1, 0, 1, 0, 10) for k in range(1, 101)]
        self.assertEqual(ask(*said, told(), if_of(0, 1, 3, 4), if_of(0, 1, 11, 12), bounds(0, 1), fit(), told())[101:],
                         [[0], [2], [1, 0, 1, 10], [1], last(*said, told())])

    def test_refused(self):
        self.assertEqual(last(if_of(1, 1, 0, 0)), [-4])
        self.assertEqual(last(if_of(0, 1, 1, 0)), [-5])
        self.assertEqual(last(if_of(0, 1, -3, -4)), [-5])


class Slack(unittest.TestCase):
    def test_none_by_itself(self):
        self.assertEqual(last(say(1, 1, 0, 1, 3, 10), slack(1)), [0, 0])
        self.assertEqual(ask(*CHAIN, slack(1), slack(2))[3:], [[0, 0], [0, 0]])

    def test_beside_a_narrower_one(self):
        self.assertEqual(ask(say(1, 1, 0, 1, 3, 10), say(2, 1, 0, 1, 5, 9), slack(1), slack(2))[2:], [[2, 1], [0, 0]])
        self.assertEqual(ask(say(1, 1, 0, 1, 3, 10), say(2, 1, 1, 0, -9, -5), slack(1), slack(2))[2:],
                         [[2, 1], [0, 0]])
        self.assertEqual(ask(say(1, 1, 1, 0, -10, -3), say(2, 1, 0, 1, 5, 9), slack(1), slack(2))[2:],
                         [[1, 2], [0, 0]])

    def test_at_one_end(self):
        self.assertEqual(ask(say(1, 1, 0, 1, 3, 10), say(2, 1, 0, 1, 5, 99), slack(1), slack(2))[2:], [[2, 0], [0, 89]])

    def test_over_others(self):
        self.assertEqual(last(*CHAIN, say(3, 1, 0, 2, -9, 99), slack(3)), [7, 84])
        self.assertEqual(ask(*CHAIN, say(3, 1, 0, 2, 8, 12), slack(1), slack(2), slack(3))[4:],
                         [[0, 0], [3, 0], [0, 0]])

    def test_the_widest(self):
        self.assertEqual(last(say(1, 1, 0, 1, -BILLION, BILLION), say(2, 1, 0, 1, BILLION, BILLION), slack(1)),
                         [2 * BILLION, 0])

    def test_only_what_stands(self):
        said = [say(1, 1, 0, 1, 3, 10), say(2, 1, 0, 1, 5, 9)]
        self.assertEqual(ask(*said, take(2), slack(1), slack(2), give(2), slack(1))[2:],
                         [[0], [0, 0], [-7], [0], [2, 1]])

    def test_refused(self):
        self.assertEqual(ask(say(1, 1, 0, 1, 3, 10), slack(2), take(1), slack(1))[1:], [[-10], [0], [-7]])


class Pinned(unittest.TestCase):
    def test_no_statement(self):
        self.assertEqual(last(pinned()), [2, 1, 0, 0, 1, 1, 0])
        self.assertEqual(last(begin(24), pinned()), [24] + [number for i in range(24) for number in (1, i, 0)])

    def test_by_one_statement(self):
        self.assertEqual(last(say(1, 1, 0, 1, 5, 5), pinned()), [1, 2, 0, 1, 0, 5])
        self.assertEqual(last(say(1, 1, 1, 0, 5, 5), pinned()), [1, 2, 0, 1, 0, -5])
        self.assertEqual(last(say(1, 1, 0, 1, 0, 0), pinned()), [1, 2, 0, 1, 0, 0])
        self.assertEqual(last(say(1, 1, 0, 1, 5, 6), pinned()), [2, 1, 0, 0, 1, 1, 0])

    def test_by_ends_that_touch(self):
        self.assertEqual(last(say(1, 1, 0, 1, 0, 5), say(2, 1, 0, 1, 5, 9), pinned()), [1, 2, 0, 1, 0, 5])

    def test_events_first_and_then_their_bounds_from_the_first(self):
        said = [begin(5), say(1, 1, 4, 1, 3, 3), say(2, 1, 3, 4, 2, 2), say(3, 1, 0, 2, -7, -7), say(4, 1, 0, 1, 0, 9)]
        self.assertEqual(last(*said, pinned()), [2, 2, 0, 2, 0, -7, 3, 1, 3, 4, 0, -5, -3])

    def test_classes_by_their_first_events(self):
        said = [begin(6), say(1, 1, 5, 0, 1, 1), say(2, 1, 1, 4, 2, 2), say(3, 1, 2, 3, 3, 4)]
        self.assertEqual(last(*said, pinned()), [4, 2, 0, 5, 0, -1, 2, 1, 4, 0, 2, 1, 2, 0, 1, 3, 0])

    def test_by_a_ring_of_sum_0(self):
        said = [begin(3), say(1, 1, 0, 1, 1, 9), say(2, 1, 1, 2, 1, 9), say(3, 1, 0, 2, -9, 2)]
        self.assertEqual(last(*said, pinned()), [1, 3, 0, 1, 2, 0, 1, 2])

    def test_all_in_one(self):
        said = [say(i + 1, 1, i, i + 1, BILLION, BILLION) for i in range(23)]
        self.assertEqual(last(begin(24), *said, pinned()),
                         [1, 24, *range(24), *range(0, 24 * BILLION, BILLION)])

    def test_only_what_stands(self):
        self.assertEqual(ask(say(1, 1, 0, 1, 5, 5), take(1), pinned(), give(1), pinned())[2:],
                         [[2, 1, 0, 0, 1, 1, 0], [0], [1, 2, 0, 1, 0, 5]])


class Order(unittest.TestCase):
    def test_by_the_two_numbers_of_bounds(self):
        for lo, hi, answer in ((3, 10, [0, 0, 1]), (1, 1, [0, 0, 1]), (0, 1, [0, 1, 1]), (0, 0, [0, 1, 0]),
                               (-1, 0, [1, 1, 0]), (-1, -1, [1, 0, 0]), (-10, -3, [1, 0, 0]), (-1, 1, [1, 1, 1])):
            said = say(1, 1, 0, 1, lo, hi)
            self.assertEqual(ask(said, order(0, 1), order(1, 0))[1:], [answer, answer[::-1]], (lo, hi))

    def test_open(self):
        self.assertEqual(last(order(0, 1)), [1, 1, 1])
        self.assertEqual(last(begin(3), say(1, 1, 0, 1, 3, 10), order(1, 2)), [1, 1, 1])

    def test_a_equal_to_b(self):
        for said in ([], [say(1, 1, 0, 1, 3, 10)], [say(1, 1, 0, 1, -10, -3)]):
            self.assertEqual(ask(*said, order(0, 0), order(1, 1))[-2:], [[0, 1, 0]] * 2)

    def test_over_others(self):
        self.assertEqual(ask(*CHAIN, order(0, 2), order(2, 0), order(0, 1))[3:], [[1, 1, 1], [1, 1, 1], [0, 0, 1]])
        self.assertEqual(ask(*CHAIN, say(3, 1, 0, 2, 0, 99), order(0, 2), order(2, 0))[4:], [[0, 1, 1], [1, 1, 0]])

    def test_only_what_stands(self):
        self.assertEqual(ask(say(1, 1, 0, 1, 3, 10), take(1), order(0, 1))[2:], [[1, 1, 1]])


class Web(unittest.TestCase):
    def test_no_statement(self):
        self.assertEqual(last(web()), [1, 0, 0, 0, 0, 0, 1, 0])

    def test_from_each_to_each(self):
        self.assertEqual(last(say(1, 1, 0, 1, 3, 10), web()), [1, 0, 1, 10, 1, -3, 1, 0])
        self.assertEqual(last(begin(4), *CHAIN[1:], web()),
                         [1, 0, 1, 10, 1, 15, 0, 0] + [1, -3, 1, 0, 1, 5, 0, 0] + [1, 2, 1, 5, 1, 0, 0, 0]
                         + [0, 0, 0, 0, 0, 0, 1, 0])

    def test_a_bound_of_0_is_not_open(self):
        self.assertEqual(last(say(1, 1, 0, 1, 0, 0), web()), [1, 0] * 4)

    def test_of_all_events(self):
        said = [say(i + 1, 1, i, i + 1, -2, 3) for i in range(23)]
        bound = [number for i in range(24) for j in range(24) for number in (1, 3 * (j - i) if j > i else 2 * (i - j))]
        self.assertEqual(last(begin(24), *said, web()), bound)

    def test_only_what_stands(self):
        self.assertEqual(ask(say(1, 1, 0, 1, 3, 10), take(1), web())[2:], [[1, 0, 0, 0, 0, 0, 1, 0]])


if __name__ == "__main__":
    unittest.main()
