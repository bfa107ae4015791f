"""Which refusal is answered, each range at its ends, and that a refused call changes nothing."""

import unittest

from tests.helper import (BILLION, FAR, HUGE, ask, begin, bounds, drop, early, give, last, late, probes, say, shown,
                          take, tried, trust)

HUNDRED = [say(k, 1, 0, 1, 0, 10) for k in range(1, 101)]
TWISTED = [say(1, 1, 0, 1, 5, 6), say(2, 1, 0, 1, 8, 9)]


class Ranges(unittest.TestCase):
    def check(self, make, least, greatest, before=()):
        """The call that make builds of a number is refused with -1 just where the number is out of its range."""
        for number in (least, greatest):
            self.assertNotEqual(last(*before, make(number)), [-1], number)
        for number in (least - 1, greatest + 1, -HUGE, HUGE):
            self.assertEqual(last(*before, make(number)), [-1], number)

    def test_begin(self):
        self.check(begin, 2, 24)
        self.assertEqual(ask(begin(2), begin(24)), [[0], [0]])

    def test_key(self):
        self.check(lambda k: say(k, 1, 0, 1, 0, 0), 1, BILLION)
        self.check(take, 1, BILLION)
        self.check(give, 1, BILLION)
        self.assertEqual(ask(say(1, 1, 0, 1, 0, 0), say(BILLION, 1, 0, 1, 0, 0), take(1), take(BILLION), give(1),
                             give(BILLION)), [[0]] * 6)

    def test_witness(self):
        self.check(lambda w: say(1, w, 0, 1, 0, 0), 1, BILLION)
        self.check(drop, 1, BILLION)
        self.check(trust, 1, BILLION)
        self.assertEqual(ask(say(1, 1, 0, 1, 0, 0), say(2, BILLION, 0, 1, 0, 0), drop(1), drop(BILLION), trust(1),
                             trust(BILLION)), [[0]] * 2 + [[0, 1]] * 4)

    def test_events(self):
        makes = (lambda i: say(1, 1, i, 1 if i == 0 else 0, 0, 0), lambda i: say(1, 1, 1 if i == 0 else 0, i, 0, 0),
                 lambda i: bounds(i, 0), lambda i: bounds(0, i), early, late, shown)
        for make in makes:
            self.check(make, 0, 1)
            for n in (2, 3, 24):
                self.check(make, 0, n - 1, [begin(n)])
                self.check(make, 0, n - 1, [begin(24), begin(n)])

    def test_lo_and_hi(self):
        self.check(lambda lo: say(1, 1, 0, 1, lo, BILLION), -BILLION, BILLION)
        self.check(lambda hi: say(1, 1, 0, 1, -BILLION, hi), -BILLION, BILLION)
        self.assertEqual(ask(say(1, 1, 0, 1, -BILLION, BILLION), bounds(0, 1)), [[0], [1, -BILLION, 1, BILLION]])
        self.assertEqual(ask(say(1, 1, 0, 1, BILLION, BILLION), bounds(0, 1)), [[0], [1, BILLION, 1, BILLION]])
        self.assertEqual(ask(say(1, 1, 0, 1, -BILLION, -BILLION), bounds(0, 1)), [[0], [1, -BILLION, 1, -BILLION]])

    def test_times(self):
        for time in (-FAR, FAR):
            self.assertEqual(last(tried(time, 0)), [0])
            self.assertEqual(last(tried(0, time)), [0])
        for time in (-FAR - 1, FAR + 1, -HUGE, HUGE):
            self.assertEqual(last(tried(time, 0)), [-2])
            self.assertEqual(last(tried(0, time)), [-2])

    def test_each_time_has_its_range(self):
        for i in range(24):
            for time in (-FAR - 1, FAR + 1):
                self.assertEqual(last(begin(24), tried(*[time if i == j else 0 for j in range(24)])), [-2])
            for time in (-FAR, FAR):
                self.assertEqual(last(begin(24), tried(*[time if i == j else 0 for j in range(24)])), [0])


class Order(unittest.TestCase):
    def test_say_out_of_range_comes_first(self):
        for bad in (say(0, 1, 0, 0, 1, 0), say(1, 0, 0, 0, 1, 0), say(1, 1, 2, 2, 1, 0), say(1, 1, -1, -1, 1, 0),
                    say(1, 1, 0, 0, BILLION + 1, 0), say(1, 1, 0, 0, 0, -BILLION - 1)):
            self.assertEqual(last(bad), [-1])
            self.assertEqual(last(*HUNDRED, bad), [-1])

    def test_say_key_then_event_then_span_then_room(self):
        one = say(1, 1, 0, 1, 0, 10)
        self.assertEqual(last(one, say(1, 1, 0, 0, 1, 0)), [-3])
        self.assertEqual(last(one, say(1, 1, 0, 0, 0, 0)), [-3])
        self.assertEqual(last(one, say(1, 1, 0, 1, 1, 0)), [-3])
        self.assertEqual(last(*HUNDRED, say(1, 1, 0, 1, 0, 0)), [-3])
        self.assertEqual(last(*HUNDRED, say(1, 1, 0, 0, 1, 0)), [-3])
        self.assertEqual(last(one, say(2, 1, 0, 0, 1, 0)), [-4])
        self.assertEqual(last(*HUNDRED, say(101, 1, 0, 0, 0, 0)), [-4])
        self.assertEqual(last(*HUNDRED, say(101, 1, 0, 0, 1, 0)), [-4])
        self.assertEqual(last(*HUNDRED, say(101, 1, 0, 1, 1, 0)), [-5])
        self.assertEqual(last(*HUNDRED, say(101, 1, 0, 1, 0, 0)), [-6])

    def test_out_of_range_ahead_of_unknown(self):
        for make in (take, give, drop, trust):
            self.assertEqual(last(make(0)), [-1])
            self.assertEqual(last(make(1)), [-10])

    def test_out_of_range_ahead_of_what_can_not_be(self):
        for bad in (bounds(2, 0), bounds(0, 2), bounds(-1, 0), bounds(0, -1), early(2), late(2), shown(2),
                    early(-1), late(-1), shown(-1)):
            self.assertEqual(last(*TWISTED, bad), [-1])

    def test_what_can_not_be(self):
        for question in (bounds(0, 1), bounds(0, 0), early(0), early(1), late(0), late(1), shown(0), shown(1)):
            self.assertEqual(last(*TWISTED, question), [-8])
            self.assertNotEqual(last(*TWISTED, take(2), question), [-8])

    def test_what_can_not_be_among_other_events(self):
        said = [begin(5), say(1, 1, 3, 4, 5, 6), say(2, 1, 3, 4, 8, 9)]
        for question in (bounds(0, 1), bounds(2, 2), early(0), late(0), shown(0)):
            self.assertEqual(last(*said, question), [-8])


class ChangesNothing(unittest.TestCase):
    said = [(1, 7, 0, 1, 3, 10), (2, 8, 1, 2, -4, 4), (3, 7, 0, 2, 0, 30), (4, 9, 2, 0, -5, 5)]

    def check(self, before, refused, refusal, statements):
        after = probes(3, statements)
        plain = ask(*before, *after)[len(before):]
        told = ask(*before, refused, *after)[len(before):]
        self.assertEqual(told[0], [refusal], refused)
        self.assertEqual(told[1:], plain, refused)

    def test_with_some_statements(self):
        before = [begin(3)] + [say(*one) for one in self.said] + [take(4)]
        refused = [(begin(1), -1), (begin(25), -1), (say(5, 1, 0, 3, 0, 0), -1), (say(1, 1, 0, 2, 0, 0), -3),
                   (say(4, 1, 0, 2, 0, 0), -3), (say(5, 1, 2, 2, 0, 0), -4), (say(5, 1, 0, 2, 1, 0), -5),
                   (take(0), -1), (take(5), -10), (take(4), -7), (give(0), -1), (give(5), -10), (give(1), -7),
                   (drop(0), -1), (drop(5), -10), (trust(0), -1), (trust(5), -10), (bounds(0, 3), -1), (early(3), -1),
                   (late(3), -1), (shown(3), -1), (tried(0, 0), -2), (tried(0, 0, FAR + 1), -2)]
        for call, refusal in refused:
            self.check(before, call, refusal, self.said)

    def test_where_they_can_not_be_true(self):
        before = [begin(3)] + [say(*one) for one in self.said] + [say(6, 9, 2, 1, 5, 6)]
        for call in (bounds(0, 1), early(0), late(0), shown(0)):
            self.check(before, call, -8, self.said + [(6, 9, 2, 1, 5, 6)])

    def test_where_there_are_a_hundred(self):
        hundred = [say(*one) for one in self.said] + [say(k, 5, 0, 1, 0, 20) for k in range(101, 197)]
        self.check([begin(3), *hundred], say(5, 1, 0, 1, 0, 5), -6, self.said[:2])


class Questions(unittest.TestCase):
    def test_change_nothing(self):
        said = ChangesNothing.said
        for more in ([], [say(6, 9, 2, 1, 5, 6)]):
            before = [begin(3)] + [say(*one) for one in said] + more
            after = probes(3, said)
            plain = ask(*before, *after)[len(before):]
            for question in ([6], [7], bounds(0, 1), early(1), late(2), tried(0, 5, 9), tried(0, 50, 9), shown(0)):
                self.assertEqual(ask(*before, question, *after)[len(before) + 1:], plain, question)


if __name__ == "__main__":
    unittest.main()
