"""doubt, who, peel, alone."""

import unittest

from tests.helper import (BILLION, alone, ask, begin, doubt, drop, fit, give, last, peel, ring, say, take, trust, who)


def at(k, time, w=1):
    """A statement that event 1 came so much after event 0: two with different times can't both be true."""
    return say(k, w, 0, 1, time, time)


def twists(count):
    """So many pairs of statements with the keys 1 and 2, 3 and 4 and so on, each about two events of its own."""
    said = []
    for i in range(count):
        said += [say(2 * i + 1, 11 + i, 2 * i, 2 * i + 1, 0, 5), say(2 * i + 2, 21 + i, 2 * i, 2 * i + 1, 6, 9)]
    return [begin(2 * count), *said]


class Doubt(unittest.TestCase):
    def test_none_where_all_can_be_true(self):
        for m in range(4):
            self.assertEqual(last(doubt(m)), [0, 0])
            self.assertEqual(last(at(1, 5), at(2, 5), doubt(m)), [0, 0])

    def test_the_one_that_can_not_be_true_with_the_others(self):
        said = [at(1, 5), at(2, 7), at(3, 5)]
        self.assertEqual([last(*said, doubt(m)) for m in range(4)], [[1]] + [[0, 1, 2]] * 3)

    def test_one_of_a_ring_over_three_events(self):
        said = [begin(3), say(4, 1, 0, 1, 0, 5), say(8, 1, 1, 2, 0, 5), say(6, 1, 0, 2, 12, 20)]
        self.assertEqual(last(*said, doubt(1)), [0, 1, 4])
        self.assertEqual(last(*said, say(2, 1, 0, 1, 1, 4), doubt(1)), [0, 1, 6])

    def test_of_equally_many_the_first(self):
        self.assertEqual(last(at(2, 5), at(1, 7), doubt(3)), [0, 1, 1])
        self.assertEqual(last(at(10, 5), at(9, 7), doubt(3)), [0, 1, 9])
        self.assertEqual(last(at(100, 5), at(20, 7), at(3, 9), doubt(3)), [0, 2, 3, 20])

    def test_compared_number_by_number(self):
        # 5 and 6 stay, or 1 and 9: of the two that go 1 and 9 come first, though 5 and 6 have the lesser sum.
        said = [at(1, 0), at(9, 0), at(5, 4), at(6, 4)]
        self.assertEqual(last(*said, doubt(2)), [0, 2, 1, 9])
        self.assertEqual(last(*said, at(4, 4), doubt(2)), [0, 2, 1, 9])
        self.assertEqual(last(*said, at(8, 0), doubt(2)), [0, 2, 5, 6])

    def test_one_from_each_of_several_rings(self):
        self.assertEqual([last(*twists(2), doubt(m)) for m in range(4)], [[1], [1], [0, 2, 1, 3], [0, 2, 1, 3]])
        self.assertEqual([last(*twists(3), doubt(m)) for m in range(4)], [[1], [1], [1], [0, 3, 1, 3, 5]])

    def test_more_than_three_are_needed(self):
        self.assertEqual(last(*twists(4), doubt(3)), [1])
        self.assertEqual(ask(*twists(4), take(8), doubt(3))[-1], [0, 3, 1, 3, 5])

    def test_fewer_go_ahead_of_the_first(self):
        # Without 9 the rest can be true; without 1 and 2 too.
        said = [at(1, 5), at(2, 5), at(9, 6)]
        self.assertEqual(last(*said, doubt(3)), [0, 1, 9])

    def test_only_what_stands(self):
        said = [at(1, 5), at(2, 7), at(3, 9)]
        self.assertEqual(ask(*said, take(1), doubt(3), take(3), doubt(3), give(1), doubt(3))[3:],
                         [[0], [0, 1, 2], [0], [0, 0], [0], [0, 1, 1]])

    def test_up_to_24_may_stand(self):
        said = [at(k, 5) for k in range(1, 24)]
        self.assertEqual(last(*said, at(24, 6), doubt(1)), [0, 1, 24])
        self.assertEqual(ask(*said, at(24, 6), at(25, 6), doubt(2), take(1), doubt(2), give(1), doubt(2))[25:],
                         [[-11], [0], [0, 2, 24, 25], [0], [-11]])
        self.assertEqual(ask(*said, at(24, 5), at(25, 5), doubt(0), doubt(3))[25:], [[-11]] * 2)

    def test_all_that_is_kept_may_be_more(self):
        said = [at(k, 5, 2) for k in range(1, 91)]
        self.assertEqual(ask(*said, drop(2), at(91, 5), at(92, 6), doubt(1), trust(2), doubt(1))[90:],
                         [[0, 90], [0], [0], [0, 1, 91], [0, 90], [-11]])

    def test_the_last_three_of_24(self):
        said = [at(k, 5) for k in range(1, 22)] + [at(k, k) for k in range(22, 25)]
        self.assertEqual([last(*said, doubt(m)) for m in range(4)], [[1], [1], [1], [0, 3, 22, 23, 24]])

    def test_many_rings_that_share_statements(self):
        # Four statements from each event to the next round six events: every ring takes one of each four.
        said = [say(6 * j + i + 1, 1, i, (i + 1) % 6, 1, 1) for j in range(4) for i in range(6)]
        self.assertEqual(last(begin(6), *said, doubt(3)), [1])
        self.assertEqual(last(begin(6), *said, take(12), doubt(3)), [0, 3, 6, 18, 24])


class Who(unittest.TestCase):
    def test_none_where_all_can_be_true(self):
        for m in range(4):
            self.assertEqual(last(who(m)), [0, 0])
            self.assertEqual(last(at(1, 5, 3), at(2, 5, 4), who(m)), [0, 0])

    def test_the_witness_whose_statements_can_not_be_true_with_the_others(self):
        said = [at(1, 5, 30), at(2, 7, 10), at(3, 5, 20), at(4, 8, 10)]
        self.assertEqual([last(*said, who(m)) for m in range(4)], [[1]] + [[0, 1, 10]] * 3)
        self.assertEqual(last(*said, doubt(2)), [0, 2, 2, 4])

    def test_a_witness_against_himself(self):
        self.assertEqual(last(at(1, 5, 7), at(2, 6, 7), who(1)), [0, 1, 7])

    def test_of_equally_many_the_first_by_witness(self):
        self.assertEqual(last(at(1, 5, 10), at(2, 7, 9), who(3)), [0, 1, 9])
        self.assertEqual(last(at(3, 5, 100), at(2, 7, 20), at(1, 9, 3), who(3)), [0, 2, 3, 20])
        said = [at(1, 4, 5), at(2, 4, 6), at(3, 0, 1), at(4, 0, 9)]
        self.assertEqual(last(*said, who(2)), [0, 2, 1, 9])

    def test_several(self):
        self.assertEqual([last(*twists(3), who(m)) for m in range(4)], [[1], [1], [1], [0, 3, 11, 12, 13]])
        self.assertEqual(last(*twists(4), who(3)), [1])

    def test_fewer_go_ahead_of_the_first(self):
        self.assertEqual(last(at(1, 5, 1), at(2, 5, 2), at(3, 6, 9), at(4, 7, 9), who(3)), [0, 1, 9])

    def test_one_witness_for_many_statements(self):
        said = twists(6)
        own = [[*call[:2], 4, *call[3:]] if call[0] == 1 and call[1] % 2 == 0 else call for call in said]
        self.assertEqual(ask(*own, who(1), doubt(3))[-2:], [[0, 1, 4], [1]])

    def test_only_what_stands(self):
        said = [at(1, 5, 3), at(2, 7, 4), at(3, 9, 5)]
        self.assertEqual(ask(*said, take(1), who(3), drop(5), who(3), trust(3), who(3))[3:],
                         [[0], [0, 1, 4], [0, 1], [0, 0], [0, 1], [0, 1, 3]])

    def test_up_to_24_statements_may_stand(self):
        said = [at(k, 5, 1) for k in range(1, 24)]
        self.assertEqual(last(*said, at(24, 6, 2), who(1)), [0, 1, 1])
        self.assertEqual(ask(*said, at(24, 6, 2), at(25, 6, 2), who(2), take(1), who(2), give(1), who(0))[25:],
                         [[-11], [0], [0, 1, 1], [0], [-11]])

    def test_the_greatest_witness_and_key(self):
        said = [at(BILLION, 5, BILLION), at(BILLION - 1, 4, BILLION - 1), at(1, 4, BILLION - 1)]
        self.assertEqual(ask(*said, who(1), doubt(1))[3:], [[0, 1, BILLION - 1], [0, 1, BILLION]])


class Peel(unittest.TestCase):
    def test_none_where_all_can_be_true(self):
        self.assertEqual(last(peel()), [0])
        self.assertEqual(last(at(1, 5), at(2, 5), peel()), [0])

    def test_one_ring(self):
        self.assertEqual(last(at(2, 5), at(1, 6), peel()), [1, 2, 1, 2])

    def test_keys_rise_though_the_ring_goes_otherwise(self):
        said = [begin(3), say(9, 1, 0, 1, 0, 5), say(10, 1, 1, 2, 0, 5), say(3, 1, 0, 2, 12, 20)]
        self.assertEqual(ask(*said, ring(), peel())[4:], [[1, 0, -2, 3, 9, 0, 10, 0, 3, 1], [1, 3, 3, 9, 10]])

    def test_rings_in_the_order_in_which_they_are_told(self):
        said = twists(3)
        self.assertEqual(last(*said, peel()), [3, 2, 1, 2, 2, 3, 4, 2, 5, 6])
        self.assertEqual(last(*said, say(7, 1, 4, 5, 20, 30), peel()), [3, 2, 5, 7, 2, 1, 2, 2, 3, 4])

    def test_what_a_ring_has_is_gone_from_the_next(self):
        # 1 and 4 are farthest apart; then 2 and 3 are left.
        self.assertEqual(last(at(1, 0), at(2, 3), at(3, 5), at(4, 9), peel()), [2, 2, 1, 4, 2, 2, 3])
        self.assertEqual(last(at(1, 0), at(2, 3), at(3, 9), peel()), [1, 2, 1, 3])
        # Both other rings need the statement 1, which the first takes away.
        said = [begin(3), say(1, 1, 0, 1, 0, 0), say(2, 1, 0, 1, 9, 9), say(3, 1, 0, 1, 8, 9), say(4, 1, 0, 1, 7, 9)]
        self.assertEqual(last(*said, peel()), [1, 2, 1, 2])

    def test_rings_of_different_lengths(self):
        said = [begin(3), say(1, 1, 0, 1, 1, 1), say(2, 1, 1, 2, 1, 1), say(3, 1, 2, 0, 1, 1), say(4, 1, 1, 0, 5, 5)]
        self.assertEqual(last(*said, peel()), [1, 2, 1, 4])
        self.assertEqual(last(*said, say(5, 1, 0, 1, 1, 1), peel()), [2, 2, 1, 4, 3, 2, 3, 5])

    def test_only_what_stands_and_each_ring_as_ring_tells_it(self):
        said = [at(1, 0), at(2, 3), at(3, 5), at(4, 9)]
        self.assertEqual(ask(*said, take(4), peel(), ring(), take(1), take(3), peel(), ring())[4:],
                         [[0], [1, 2, 1, 3], [1, 0, -5, 2, 1, 0, 3, 1], [0], [0], [0], [0]])

    def test_a_hundred_statements(self):
        said = [at(k, k) for k in range(1, 101)]
        told = [number for k in range(1, 51) for number in (2, k, 101 - k)]
        self.assertEqual(ask(*said, peel(), fit(), peel())[100:], [[50] + told, [0], [50] + told])

    def test_the_longest_ring(self):
        said = [say(i + 1, 1, i, (i + 1) % 24, -BILLION, -1 if i == 0 else 0) for i in range(24)]
        self.assertEqual(last(begin(24), *said, peel()), [1, 24, *range(1, 25)])


class Alone(unittest.TestCase):
    said = [at(1, 5, 7), at(2, 6, 8), at(3, 5, 7), at(4, 9, 8)]

    def test_whether_they_can_be_true_by_themselves(self):
        self.assertEqual(ask(*self.said, fit(), alone(7), alone(8))[4:], [[0], [1], [0]])

    def test_only_what_stands(self):
        self.assertEqual(ask(*self.said, take(4), alone(8), give(4), alone(8))[4:], [[0], [1], [0], [0]])

    def test_none_that_stands(self):
        self.assertEqual(ask(*self.said, drop(8), alone(8), fit())[4:], [[0, 2], [1], [1]])

    def test_over_several_events(self):
        said = [begin(3), say(1, 7, 0, 1, 1, 2), say(2, 7, 1, 2, 1, 2), say(3, 7, 2, 0, 1, 2), say(4, 8, 0, 1, 1, 2)]
        self.assertEqual(ask(*said, alone(7), alone(8))[5:], [[0], [1]])

    def test_a_witness_of_no_statement(self):
        self.assertEqual(ask(*self.said, alone(9), alone(1), alone(BILLION))[4:], [[-10]] * 3)
        self.assertEqual(ask(*self.said, begin(2), alone(7))[4:], [[0], [-10]])

    def test_more_than_24(self):
        self.assertEqual(ask(*[at(k, 5, 7) for k in range(1, 101)], alone(7))[100:], [[1]])


if __name__ == "__main__":
    unittest.main()
