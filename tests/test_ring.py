"""ring: the order of choice, where several rings tie at each step of it."""

import unittest

from tests.helper import BILLION, ask, begin, drop, fit, last, ring, say, take


class NoRing(unittest.TestCase):
    def test_no_statements(self):
        self.assertEqual(last(ring()), [0])

    def test_a_sum_of_0_is_no_ring(self):
        self.assertEqual(last(say(1, 1, 0, 1, 5, 5), say(2, 1, 0, 1, 5, 9), ring()), [0])
        said = [begin(3), say(1, 1, 0, 1, 1, 1), say(2, 1, 1, 2, 1, 1), say(3, 1, 2, 0, -2, 9)]
        self.assertEqual(last(*said, ring()), [0])

    def test_two_edges_of_one_statement_are_none(self):
        for lo, hi in ((-5, -5), (-5, -3), (3, 5), (-BILLION, -BILLION), (BILLION, BILLION), (0, 0)):
            self.assertEqual(last(say(1, 1, 0, 1, lo, hi), ring()), [0])


class Direction(unittest.TestCase):
    def test_over_two_statements_between_the_same_events(self):
        self.assertEqual(last(say(1, 1, 0, 1, 0, 5), say(2, 1, 0, 1, 7, 9), ring()), [1, 0, -2, 2, 1, 0, 2, 1])
        self.assertEqual(last(say(2, 1, 0, 1, 0, 5), say(1, 1, 0, 1, 7, 9), ring()), [1, 0, -2, 2, 2, 0, 1, 1])

    def test_against_each_other(self):
        self.assertEqual(last(say(1, 1, 0, 1, 3, 5), say(2, 1, 1, 0, 1, 9), ring()), [1, 0, -4, 2, 2, 1, 1, 1])
        self.assertEqual(last(say(1, 1, 0, 1, -9, -3), say(2, 1, 1, 0, -9, 1), ring()), [1, 0, -2, 2, 1, 0, 2, 0])

    def test_over_three_events(self):
        said = [begin(3), say(1, 1, 0, 1, 0, 5), say(2, 1, 1, 2, 0, 5), say(3, 1, 0, 2, 12, 20)]
        self.assertEqual(last(*said, ring()), [1, 0, -2, 3, 1, 0, 2, 0, 3, 1])

    def test_of_one_witness_or_of_several(self):
        self.assertEqual(last(say(1, 3, 0, 1, 0, 5), say(2, 4, 0, 1, 7, 9), ring()), [1, 0, -2, 2, 1, 0, 2, 1])

    def test_only_what_stands(self):
        said = [say(1, 1, 0, 1, 0, 5), say(2, 2, 0, 1, 7, 9)]
        self.assertEqual(ask(*said, take(1), ring())[-1], [0])
        self.assertEqual(ask(*said, drop(2), ring())[-1], [0])


class FewestEdges(unittest.TestCase):
    def test_ahead_of_the_sum_and_of_the_event(self):
        said = [begin(5), say(1, 1, 0, 1, -99, -50), say(2, 1, 1, 2, -99, -50), say(3, 1, 2, 0, -99, -50),
                say(8, 1, 3, 4, 0, 5), say(9, 1, 3, 4, 6, 7)]
        self.assertEqual(ask(*said, ring(), take(9), ring())[6:],
                         [[1, 3, -1, 2, 8, 0, 9, 1], [0], [1, 0, -150, 3, 1, 0, 2, 0, 3, 0]])

    def test_a_ring_gone_round_again_and_again_is_not_told(self):
        self.assertEqual(last(say(1, 1, 0, 1, -5, -5), say(2, 1, 0, 1, -4, -4), ring()), [1, 0, -1, 2, 1, 0, 2, 1])

    def test_as_many_edges_as_events(self):
        said = [say(i + 1, 1, i, (i + 1) % 24, -BILLION, -1 if i == 0 else 0) for i in range(24)]
        steps = [number for i in range(24) for number in (i + 1, 0)]
        self.assertEqual(ask(begin(24), *said, fit(), ring())[25:], [[0], [1, 0, -1, 24] + steps])

    def test_the_farthest_sum(self):
        said = [say(i + 1, 1, i, (i + 1) % 24, BILLION, BILLION) for i in range(24)]
        steps = [number for i in (23, *range(22, -1, -1)) for number in (i + 1, 1)]
        self.assertEqual(last(begin(24), *said, ring()), [1, 0, -24 * BILLION, 24] + steps)


class LeastSum(unittest.TestCase):
    def test_ahead_of_the_event(self):
        said = [begin(4), say(1, 1, 0, 1, 0, 5), say(2, 1, 0, 1, 7, 9), say(3, 1, 2, 3, 0, 5), say(4, 1, 2, 3, 8, 9)]
        self.assertEqual(last(*said, ring()), [1, 2, -3, 2, 3, 0, 4, 1])

    def test_ahead_of_the_order_of_edges(self):
        said = [say(1, 1, 0, 1, 0, 5), say(2, 1, 0, 1, 7, 9), say(3, 1, 0, 1, 8, 9)]
        self.assertEqual(last(*said, ring()), [1, 0, -3, 2, 1, 0, 3, 1])
        said = [say(3, 1, 0, 1, 0, 5), say(2, 1, 0, 1, 7, 9), say(1, 1, 0, 1, 0, 6)]
        self.assertEqual(last(*said, ring()), [1, 0, -2, 2, 3, 0, 2, 1])

    def test_of_longer_rings(self):
        said = [begin(4), say(1, 1, 0, 1, 0, 5), say(2, 1, 1, 2, 0, 5), say(3, 1, 1, 2, 0, 4), say(4, 1, 0, 2, 12, 20)]
        self.assertEqual(last(*said, ring()), [1, 0, -3, 3, 1, 0, 3, 0, 4, 1])


class LeastEvent(unittest.TestCase):
    def test_of_one_ring(self):
        # Its least event is 1, though key 1 leads from 3.
        said = [begin(4), say(1, 1, 3, 2, 0, 5), say(2, 1, 2, 1, 0, 5), say(3, 1, 3, 1, 12, 20)]
        self.assertEqual(last(*said, ring()), [1, 1, -2, 3, 3, 1, 1, 0, 2, 0])

    def test_of_several_rings_ahead_of_the_order_of_edges(self):
        said = [begin(4), say(1, 1, 2, 3, 0, 5), say(2, 1, 2, 3, 7, 9), say(3, 1, 0, 1, 0, 5), say(4, 1, 0, 1, 7, 9)]
        self.assertEqual(last(*said, ring()), [1, 0, -2, 2, 3, 0, 4, 1])

    def test_of_rings_that_share_events(self):
        said = [begin(4), say(1, 1, 1, 2, 0, 5), say(2, 1, 1, 2, 7, 9), say(3, 1, 0, 2, 0, 5), say(4, 1, 0, 2, 7, 9)]
        self.assertEqual(last(*said, ring()), [1, 0, -2, 2, 3, 0, 4, 1])


class First(unittest.TestCase):
    def test_by_the_key_of_the_first_edge(self):
        said = [say(5, 1, 0, 1, 0, 5), say(3, 1, 0, 1, 0, 5), say(9, 1, 0, 1, 7, 9)]
        self.assertEqual(last(*said, ring()), [1, 0, -2, 2, 3, 0, 9, 1])

    def test_keys_are_compared_as_numbers(self):
        said = [say(10, 1, 0, 1, 0, 5), say(9, 1, 0, 1, 0, 5), say(100, 1, 0, 1, 7, 9), say(20, 1, 0, 1, 7, 9)]
        self.assertEqual(last(*said, ring()), [1, 0, -2, 2, 9, 0, 20, 1])

    def test_by_a_later_edge(self):
        said = [say(1, 1, 0, 1, 0, 5), say(4, 1, 0, 1, 7, 9), say(3, 1, 0, 1, 7, 9)]
        self.assertEqual(last(*said, ring()), [1, 0, -2, 2, 1, 0, 3, 1])
        said = [begin(3), say(1, 1, 0, 1, 0, 5), say(7, 1, 1, 2, 0, 5), say(6, 1, 1, 2, 0, 5), say(3, 1, 0, 2, 12, 20),
                say(2, 1, 0, 2, 12, 20)]
        self.assertEqual(last(*said, ring()), [1, 0, -2, 3, 1, 0, 6, 0, 2, 1])

    def test_the_first_edge_goes_ahead_of_all_later_ones(self):
        # Over 1 by the keys 1 and 9, or over 2 by the keys 2 and 3, then the same way back.
        said = [begin(4), say(1, 1, 0, 1, -50, 5), say(9, 1, 1, 3, -50, 5), say(2, 1, 0, 2, -50, 5),
                say(3, 1, 2, 3, -50, 5), say(8, 1, 0, 3, 12, 20)]
        self.assertEqual(last(*said, ring()), [1, 0, -2, 3, 1, 0, 9, 0, 8, 1])

    def test_a_first_edge_that_only_dearer_ways_follow_is_passed_over(self):
        said = [begin(4), say(1, 1, 0, 1, -50, 5), say(9, 1, 1, 3, -50, 6), say(2, 1, 0, 2, -50, 5),
                say(3, 1, 2, 3, -50, 5), say(8, 1, 0, 3, 12, 20)]
        self.assertEqual(last(*said, ring()), [1, 0, -2, 3, 2, 0, 3, 0, 8, 1])

    def test_the_key_goes_ahead_of_the_direction(self):
        # Edges that leave one event have different keys unless they are the same, so direction alone never decides.
        back = say(8, 1, 0, 1, 7, 20)
        self.assertEqual(last(say(3, 1, 1, 0, -5, 9), say(5, 1, 0, 1, -9, 5), back, ring()), [1, 0, -2, 2, 3, 1, 8, 1])
        self.assertEqual(last(say(3, 1, 0, 1, -9, 5), say(5, 1, 1, 0, -5, 9), back, ring()), [1, 0, -2, 2, 3, 0, 8, 1])

    def test_either_way_round(self):
        # Of the ring that goes one way round and the one that goes the other, the one whose edge from 0 comes first.
        said = [begin(3), say(4, 1, 0, 1, 0, 0), say(5, 1, 1, 2, 0, 0)]
        later, sooner = say(9, 1, 0, 2, 3, 3), say(7, 1, 0, 2, -3, -3)
        self.assertEqual(last(*said, later, ring()), [1, 0, -3, 3, 4, 0, 5, 0, 9, 1])
        self.assertEqual(last(*said, sooner, ring()), [1, 0, -3, 3, 7, 0, 5, 1, 4, 1])
        self.assertEqual(last(*said, say(9, 1, 2, 0, 3, 3), ring()), [1, 0, -3, 3, 9, 1, 5, 1, 4, 1])


if __name__ == "__main__":
    unittest.main()
