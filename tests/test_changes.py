"""begin, say, take, give, drop, trust."""

import unittest

from tests.helper import (BILLION, ask, begin, bounds, drop, early, fit, give, last, late, ring, say, shown, take,
                          tried, trust)

HUNDRED = [say(k, 1, 0, 1, 0, 10) for k in range(1, 101)]


class BeforeTheFirstCall(unittest.TestCase):
    def test_there_are_two_events(self):
        self.assertEqual(last(late(0)), [1, 0, 0, 0])
        self.assertEqual(last(late(1)), [0, 0, 1, 0])
        self.assertEqual(last(late(2)), [-1])
        self.assertEqual(last(tried(5, 6)), [0])

    def test_there_are_no_statements(self):
        self.assertEqual(last(fit()), [1])
        self.assertEqual(last(take(1)), [-10])
        self.assertEqual(last(drop(1)), [-10])


class Begin(unittest.TestCase):
    def test_answers_0_and_sets_how_many_events_there_are(self):
        self.assertEqual(ask(begin(3), late(2), late(3)), [[0], [0, 0, 0, 0, 1, 0], [-1]])

    def test_fewer_events_than_before(self):
        self.assertEqual(ask(begin(5), late(4), begin(2), late(2), late(1)),
                         [[0], [0] * 8 + [1, 0], [0], [-1], [0, 0, 1, 0]])

    def test_takes_all_statements_away(self):
        said = [say(1, 7, 0, 1, 5, 5), say(2, 8, 0, 1, 6, 6), take(2)]
        told = ask(*said, begin(2), fit(), bounds(0, 1), take(1), give(2), drop(7), trust(8), tried(0, 0), ring())
        self.assertEqual(told[3:], [[0], [1], [0, 0, 0, 0], [-10], [-10], [-10], [-10], [0], [0]])

    def test_frees_the_keys(self):
        self.assertEqual(ask(say(1, 1, 0, 1, 0, 5), begin(2), say(1, 1, 1, 0, 2, 3), bounds(1, 0)),
                         [[0], [0], [0], [1, 2, 1, 3]])

    def test_frees_room_for_a_hundred(self):
        self.assertEqual(ask(begin(2), *HUNDRED[:50], begin(2), *HUNDRED), [[0]] * 152)

    def test_refused_keeps_the_statements(self):
        for n in (1, 25):
            self.assertEqual(ask(say(1, 1, 0, 1, 2, 5), begin(n), bounds(0, 1), late(2)),
                             [[0], [-1], [1, 2, 1, 5], [-1]])


class Say(unittest.TestCase):
    def test_a_new_statement_stands(self):
        self.assertEqual(ask(say(4, 9, 0, 1, 3, 10), bounds(0, 1), give(4), take(4)),
                         [[0], [1, 3, 1, 10], [-7], [0]])

    def test_lo_may_be_hi(self):
        self.assertEqual(ask(say(4, 9, 0, 1, 3, 3), bounds(0, 1)), [[0], [1, 3, 1, 3]])

    def test_a_may_be_above_b(self):
        self.assertEqual(ask(say(4, 9, 1, 0, 3, 10), bounds(0, 1)), [[0], [1, -10, 1, -3]])

    def test_a_key_is_taken_once(self):
        self.assertEqual(ask(say(4, 9, 0, 1, 3, 10), say(4, 8, 1, 0, 0, 1), bounds(0, 1), drop(8)),
                         [[0], [-3], [1, 3, 1, 10], [-10]])

    def test_a_statement_taken_back_keeps_its_key(self):
        self.assertEqual(ask(say(4, 9, 0, 1, 3, 10), take(4), say(4, 8, 1, 0, 0, 1), give(4), bounds(0, 1)),
                         [[0], [0], [-3], [0], [1, 3, 1, 10]])

    def test_a_is_b(self):
        self.assertEqual(ask(say(4, 9, 1, 1, 0, 0), take(4)), [[-4], [-10]])

    def test_hi_below_lo(self):
        self.assertEqual(ask(say(4, 9, 0, 1, 3, 2), take(4)), [[-5], [-10]])
        self.assertEqual(last(say(4, 9, 0, 1, -2, -3)), [-5])

    def test_the_hundredth_and_the_next(self):
        told = ask(*HUNDRED, say(101, 2, 0, 1, 0, 1), take(101), drop(2), bounds(0, 1))
        self.assertEqual(told[:100], [[0]] * 100)
        self.assertEqual(told[100:], [[-6], [-10], [-10], [1, 0, 1, 10]])

    def test_those_taken_back_count_among_the_hundred(self):
        self.assertEqual(ask(*HUNDRED, drop(1), say(101, 2, 0, 1, 0, 1))[100:], [[0, 100], [-6]])
        self.assertEqual(ask(*HUNDRED, take(50), say(101, 2, 0, 1, 0, 1))[100:], [[0], [-6]])

    def test_refused_ones_do_not_count_among_the_hundred(self):
        self.assertEqual(last(*HUNDRED[:99], say(1, 1, 0, 1, 0, 1), say(200, 1, 0, 0, 0, 1), say(200, 1, 0, 1, 1, 0),
                              say(200, 1, 0, 1, 0, 0)), [0])

    def test_statements_that_can_not_be_true_are_taken(self):
        self.assertEqual(ask(say(1, 1, 0, 1, 5, 6), say(2, 1, 0, 1, 7, 8), fit()), [[0], [0], [0]])


class TakeAndGive(unittest.TestCase):
    said = [say(3, 1, 0, 1, 0, 5), say(8, 1, 0, 1, 2, 9)]

    def test_what_is_taken_back_does_not_count(self):
        self.assertEqual(ask(*self.said, bounds(0, 1), take(3), bounds(0, 1), take(8), bounds(0, 1))[2:],
                         [[1, 2, 1, 5], [0], [1, 2, 1, 9], [0], [0, 0, 0, 0]])

    def test_what_is_given_counts_again(self):
        self.assertEqual(ask(*self.said, take(3), give(3), bounds(0, 1))[2:], [[0], [0], [1, 2, 1, 5]])

    def test_already_so(self):
        self.assertEqual(ask(*self.said, give(3), take(3), take(3), give(3), give(3))[2:], [[-7], [0], [-7], [0], [-7]])

    def test_no_statement_of_that_key(self):
        self.assertEqual(ask(*self.said, take(4), give(4), take(BILLION), give(1))[2:], [[-10]] * 4)

    def test_no_question_counts_what_is_taken_back(self):
        told = ask(say(1, 1, 0, 1, 5, 5), say(2, 1, 0, 1, 6, 6), take(2),
                   fit(), ring(), bounds(0, 1), early(0), late(0), tried(0, 5), shown(0))
        self.assertEqual(told[3:], [[1], [0], [1, 5, 1, 5], [1, 0, 1, 5], [1, 0, 1, 5], [0], [0, 5]])


class DropAndTrust(unittest.TestCase):
    said = [say(1, 7, 0, 1, 0, 5), say(2, 8, 0, 1, 1, 6), say(3, 7, 0, 1, 2, 9)]

    def test_all_of_the_witness_and_no_other(self):
        self.assertEqual(ask(*self.said, drop(7), bounds(0, 1), take(1), take(2), take(3))[3:],
                         [[0, 2], [1, 1, 1, 6], [-7], [0], [-7]])
        self.assertEqual(ask(*self.said, drop(7), drop(8), trust(7), bounds(0, 1), give(1), give(2), give(3))[5:],
                         [[0, 2], [1, 2, 1, 5], [-7], [0], [-7]])

    def test_only_those_changed_are_counted(self):
        self.assertEqual(ask(*self.said, take(3), drop(7), give(1), trust(7))[3:], [[0], [0, 1], [0], [0, 1]])

    def test_none_changed(self):
        self.assertEqual(ask(*self.said, trust(7), drop(7), drop(7), trust(7), trust(7))[3:],
                         [[0, 0], [0, 2], [0, 0], [0, 2], [0, 0]])

    def test_a_witness_of_no_statement(self):
        self.assertEqual(ask(*self.said, drop(9), trust(9), drop(1), bounds(0, 1))[3:],
                         [[-10], [-10], [-10], [1, 2, 1, 5]])

    def test_a_witness_all_of_whose_statements_are_taken_back_is_one(self):
        self.assertEqual(ask(say(1, 7, 0, 1, 0, 5), take(1), drop(7), trust(7)), [[0], [0], [0, 0], [0, 1]])


if __name__ == "__main__":
    unittest.main()
