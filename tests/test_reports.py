"""walk, told."""

import unittest

from tests.helper import BILLION, HUGE, ask, begin, drop, give, last, say, take, told, trust, walk

CHAIN = [begin(3), say(4, 1, 0, 1, 3, 10), say(7, 2, 1, 2, -5, 6)]


class Walk(unittest.TestCase):
    def test_the_way_of_no_edges(self):
        self.assertEqual(last(walk(1)), [0, 1, 0])
        self.assertEqual(ask(*CHAIN, walk(0), walk(2))[3:], [[0, 0, 0], [0, 2, 0]])

    def test_one_edge(self):
        self.assertEqual(ask(*CHAIN, walk(0, 4, 0), walk(1, 4, 1), walk(1, 7, 0), walk(2, 7, 1))[3:],
                         [[0, 1, 10], [0, 0, -3], [0, 2, 6], [0, 1, 5]])

    def test_several(self):
        self.assertEqual(ask(*CHAIN, walk(0, 4, 0, 7, 0), walk(2, 7, 1, 4, 1), walk(0, 4, 0, 7, 0, 7, 1, 4, 1))[3:],
                         [[0, 2, 16], [0, 0, 2], [0, 0, 18]])

    def test_an_edge_again_and_again(self):
        self.assertEqual(last(*CHAIN, walk(0, *[4, 0, 4, 1] * 499, 4, 0)), [0, 1, 7 * 499 + 10])

    def test_the_longest_and_heaviest(self):
        said = [say(1, 1, 0, 1, -BILLION, BILLION), say(2, 1, 0, 1, -BILLION, BILLION)]
        self.assertEqual(last(*said, walk(0, *[1, 0, 2, 1] * 500)), [0, 0, 1000 * BILLION])

    def test_edges_that_are_no_way(self):
        for way in ((7, 0), (4, 1), (7, 1), (4, 0, 4, 0), (4, 0, 7, 1), (4, 0, 7, 0, 4, 1), (4, 0, 7, 0, 7, 0)):
            self.assertEqual(last(*CHAIN, walk(0, *way)), [-2], way)
        self.assertEqual(last(*CHAIN, walk(2, 4, 0)), [-2])

    def test_no_whole_pairs(self):
        for way in ((4,), (4, 0, 7), (4, 0, 7, 0, 7), (9,), [4] * 1999):
            self.assertEqual(last(*CHAIN, walk(0, *way)), [-2], way)

    def test_no_key_of_a_statement_that_stands(self):
        for key in (1, 5, 0, -4, -1, BILLION + 1, HUGE, -HUGE):
            self.assertEqual(last(*CHAIN, walk(0, key, 0)), [-2], key)
            self.assertEqual(last(*CHAIN, walk(0, 4, 0, key, 0)), [-2], key)
        self.assertEqual(ask(*CHAIN, take(4), walk(0, 4, 0), walk(1, 7, 0), give(4), walk(0, 4, 0))[3:],
                         [[0], [-2], [0, 2, 6], [0], [0, 1, 10]])

    def test_no_direction(self):
        for direction in (-1, 2, HUGE, -HUGE):
            self.assertEqual(last(*CHAIN, walk(0, 4, direction)), [-2], direction)
            self.assertEqual(last(*CHAIN, walk(0, 4, 0, 7, direction)), [-2], direction)

    def test_where_they_can_not_all_be_true(self):
        said = [say(1, 1, 0, 1, 0, 5), say(2, 1, 0, 1, 7, 9)]
        self.assertEqual(last(*said, walk(0, 1, 0, 2, 1)), [0, 0, -2])


class Told(unittest.TestCase):
    def test_before_the_first_call(self):
        self.assertEqual(last(told()), [2, 0])

    def test_by_rising_keys(self):
        said = [begin(24), say(10, 7, 23, 0, -4, 5), say(9, 8, 1, 2, 6, 6), say(100, 7, 5, 4, -BILLION, BILLION)]
        self.assertEqual(last(*said, told()), [24, 3, 9, 8, 1, 2, 6, 6, 1, 10, 7, 23, 0, -4, 5, 1,
                                               100, 7, 5, 4, -BILLION, BILLION, 1])

    def test_those_taken_back_too(self):
        self.assertEqual(ask(*CHAIN, take(4), told(), drop(2), told(), trust(1), told())[3:], [
            [0], [3, 2, 4, 1, 0, 1, 3, 10, 0, 7, 2, 1, 2, -5, 6, 1],
            [0, 1], [3, 2, 4, 1, 0, 1, 3, 10, 0, 7, 2, 1, 2, -5, 6, 0],
            [0, 1], [3, 2, 4, 1, 0, 1, 3, 10, 1, 7, 2, 1, 2, -5, 6, 0]])

    def test_after_begin(self):
        self.assertEqual(ask(*CHAIN, begin(5), told())[3:], [[0], [5, 0]])

    def test_where_they_can_not_all_be_true(self):
        self.assertEqual(last(say(1, 1, 0, 1, 5, 5), say(2, 1, 0, 1, 6, 6), told()),
                         [2, 2, 1, 1, 0, 1, 5, 5, 1, 2, 1, 0, 1, 6, 6, 1])

    def test_a_hundred(self):
        said = [say(k, k + 1, 0, 1, -k, k) for k in range(100, 0, -1)]
        rows = [number for k in range(1, 101) for number in (k, k + 1, 0, 1, -k, k, 1)]
        self.assertEqual(last(*said, told()), [2, 100] + rows)


if __name__ == "__main__":
    unittest.main()
