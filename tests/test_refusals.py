"""Which refusal is answered, each range at its ends, and that a refused call changes nothing."""

import unittest

from tests.helper import (BILLION, FAR, HUGE, alone, ask, begin, bounds, doubt, drop, early, fit, give, if_of, last,
                          late, needless, order, peel, pinned, probes, ring, say, shown, slack, take, told, tried,
                          trust, walk, web, who, why)

HUNDRED = [say(k, 1, 0, 1, 0, 10) for k in range(1, 101)]
TWISTED = [say(1, 1, 0, 1, 5, 6), say(2, 1, 0, 1, 8, 9)]
# The questions that are refused with -8, whatever two events they ask of.
OF_TRUE_ONES = [bounds(0, 1), bounds(0, 0), early(0), early(1), late(0), late(1), shown(0), shown(1), why(0, 1),
                why(1, 0), why(0, 0), if_of(0, 1, 0, 0), if_of(0, 1, 0, 99), pinned(), order(0, 1), order(1, 1), web()]


class Ranges(unittest.TestCase):
    def check(self, make, least, greatest, before=()):
        """The call that make builds of a number is refused with -1 just where the number is out of its range."""
        for number in (least, greatest):
            self.assertNotEqual(last(*before, make(number)), [-1], number)
        for number in (least - 1, greatest + 1, -HUGE, HUGE):
            self.assertEqual(last(*before, make(number)), [-1], number)

    def test_begin(self):
        self.check(begin, 2, 24)
        self.assertEqual(ask(begin(2), begin(24)), [[0], [0]])

    def test_key(self):
        self.check(lambda k: say(k, 1, 0, 1, 0, 0), 1, BILLION)
        for make in (take, give, needless, slack):
            self.check(make, 1, BILLION)
        self.assertEqual(ask(say(1, 1, 0, 1, 0, 0), say(BILLION, 1, 0, 1, 0, 0), take(1), take(BILLION), give(1),
                             give(BILLION)), [[0]] * 6)
        self.assertEqual(ask(say(1, 1, 0, 1, 0, 0), say(BILLION, 1, 0, 1, -2, 1), needless(1), needless(BILLION),
                             slack(1), slack(BILLION))[2:], [[0], [1], [0, 0], [2, 1]])

    def test_witness(self):
        self.check(lambda w: say(1, w, 0, 1, 0, 0), 1, BILLION)
        for make in (drop, trust, alone):
            self.check(make, 1, BILLION)
        self.assertEqual(ask(say(1, 1, 0, 1, 0, 0), say(2, BILLION, 0, 1, 0, 0), drop(1), drop(BILLION), trust(1),
                             trust(BILLION)), [[0]] * 2 + [[0, 1]] * 4)
        self.assertEqual(ask(say(1, 1, 0, 1, 0, 0), say(2, BILLION, 0, 1, 0, 0), alone(1), alone(BILLION))[2:],
                         [[1], [1]])

    def test_events(self):
        makes = (lambda i: say(1, 1, i, 1 if i == 0 else 0, 0, 0), lambda i: say(1, 1, 1 if i == 0 else 0, i, 0, 0),
                 lambda i: bounds(i, 0), lambda i: bounds(0, i), early, late, shown,
                 lambda i: why(i, 0), lambda i: why(0, i), lambda i: if_of(i, 1 if i == 0 else 0, 0, 0),
                 lambda i: if_of(1 if i == 0 else 0, i, 0, 0), lambda i: order(i, 0), lambda i: order(0, i), walk)
        for make in makes:
            self.check(make, 0, 1)
            for n in (2, 3, 24):
                self.check(make, 0, n - 1, [begin(n)])
                self.check(make, 0, n - 1, [begin(24), begin(n)])

    def test_lo_and_hi(self):
        self.check(lambda lo: say(1, 1, 0, 1, lo, BILLION), -BILLION, BILLION)
        self.check(lambda hi: say(1, 1, 0, 1, -BILLION, hi), -BILLION, BILLION)
        self.assertEqual(ask(say(1, 1, 0, 1, -BILLION, BILLION), bounds(0, 1)), [[0], [1, -BILLION, 1, BILLION]])
        self.assertEqual(ask(say(1, 1, 0, 1, BILLION, BILLION), bounds(0, 1)), [[0], [1, BILLION, 1, BILLION]])
        self.assertEqual(ask(say(1, 1, 0, 1, -BILLION, -BILLION), bounds(0, 1)), [[0], [1, -BILLION, 1, -BILLION]])

    def test_lo_and_hi_of_if(self):
        self.check(lambda lo: if_of(0, 1, lo, BILLION), -BILLION, BILLION)
        self.check(lambda hi: if_of(0, 1, -BILLION, hi), -BILLION, BILLION)

    def test_how_many_to_doubt(self):
        self.check(doubt, 0, 3)
        self.check(who, 0, 3)

    def test_times(self):
        for time in (-FAR, FAR):
            self.assertEqual(last(tried(time, 0)), [0])
            self.assertEqual(last(tried(0, time)), [0])
        for time in (-FAR - 1, FAR + 1, -HUGE, HUGE):
            self.assertEqual(last(tried(time, 0)), [-2])
            self.assertEqual(last(tried(0, time)), [-2])

    def test_each_time_has_its_range(self):
        for i in range(24):
            for time in (-FAR - 1, FAR + 1):
                self.assertEqual(last(begin(24), tried(*[time if i == j else 0 for j in range(24)])), [-2])
            for time in (-FAR, FAR):
                self.assertEqual(last(begin(24), tried(*[time if i == j else 0 for j in range(24)])), [0])


class Order(unittest.TestCase):
    def test_say_out_of_range_comes_first(self):
        for bad in (say(0, 1, 0, 0, 1, 0), say(1, 0, 0, 0, 1, 0), say(1, 1, 2, 2, 1, 0), say(1, 1, -1, -1, 1, 0),
                    say(1, 1, 0, 0, BILLION + 1, 0), say(1, 1, 0, 0, 0, -BILLION - 1)):
            self.assertEqual(last(bad), [-1])
            self.assertEqual(last(*HUNDRED, bad), [-1])

    def test_say_key_then_event_then_span_then_room(self):
        one = say(1, 1, 0, 1, 0, 10)
        self.assertEqual(last(one, say(1, 1, 0, 0, 1, 0)), [-3])
        self.assertEqual(last(one, say(1, 1, 0, 0, 0, 0)), [-3])
        self.assertEqual(last(one, say(1, 1, 0, 1, 1, 0)), [-3])
        self.assertEqual(last(*HUNDRED, say(1, 1, 0, 1, 0, 0)), [-3])
        self.assertEqual(last(*HUNDRED, say(1, 1, 0, 0, 1, 0)), [-3])
        self.assertEqual(last(one, say(2, 1, 0, 0, 1, 0)), [-4])
        self.assertEqual(last(*HUNDRED, say(101, 1, 0, 0, 0, 0)), [-4])
        self.assertEqual(last(*HUNDRED, say(101, 1, 0, 0, 1, 0)), [-4])
        self.assertEqual(last(*HUNDRED, say(101, 1, 0, 1, 1, 0)), [-5])
        self.assertEqual(last(*HUNDRED, say(101, 1, 0, 1, 0, 0)), [-6])

    def test_out_of_range_ahead_of_unknown(self):
        for make in (take, give, drop, trust, needless, slack, alone):
            self.assertEqual(last(make(0)), [-1])
            self.assertEqual(last(make(1)), [-10])

    def test_out_of_range_ahead_of_what_can_not_be(self):
        for bad in (bounds(2, 0), bounds(0, 2), bounds(-1, 0), bounds(0, -1), early(2), late(2), shown(2),
                    early(-1), late(-1), shown(-1), why(2, 0), why(0, 2), why(-1, 0), why(0, -1), needless(0), slack(0),
                    if_of(0, 2, 0, 0), if_of(0, 1, -BILLION - 1, 0), order(2, 0), order(0, -1)):
            self.assertEqual(last(*TWISTED, bad), [-1])

    def test_what_can_not_be(self):
        for question in (*OF_TRUE_ONES, needless(1), slack(1)):
            self.assertEqual(last(*TWISTED, question), [-8])
            self.assertNotEqual(last(*TWISTED, take(2), question), [-8])

    def test_those_that_what_can_not_be_does_not_refuse(self):
        for question in (fit(), ring(), tried(0, 5), doubt(0), who(3), peel(), walk(0, 1, 0), told(), alone(1)):
            self.assertGreaterEqual(last(*TWISTED, question)[0], 0)

    def test_key_then_standing_then_what_can_not_be(self):
        said = [*TWISTED, say(3, 1, 0, 1, 5, 6), take(3)]
        for make in (needless, slack):
            self.assertEqual([last(*said, make(k)) for k in (0, 4, 3, 1)], [[-1], [-10], [-7], [-8]])
            self.assertEqual(last(*said, take(2), make(3)), [-7])

    def test_if_out_of_range_then_event_then_span_then_what_can_not_be(self):
        for said in ([], TWISTED):
            self.assertEqual(last(*said, if_of(2, 2, 0, 0)), [-1])
            self.assertEqual(last(*said, if_of(0, 0, BILLION + 1, 0)), [-1])
            self.assertEqual(last(*said, if_of(0, 1, 0, -BILLION - 1)), [-1])
            self.assertEqual(last(*said, if_of(1, 1, 1, 0)), [-4])
            self.assertEqual(last(*said, if_of(1, 1, 0, 0)), [-4])
            self.assertEqual(last(*said, if_of(0, 1, 1, 0)), [-5])
        self.assertEqual(last(*TWISTED, if_of(0, 1, 0, 0)), [-8])

    def test_doubt_and_who_out_of_range_then_too_many(self):
        for more in ([], [say(101, 1, 0, 1, 11, 12)]):
            said = HUNDRED[:25] + more
            for make in (doubt, who):
                self.assertEqual([last(*said, make(m)) for m in (-1, 0, 3, 4)], [[-1], [-11], [-11], [-1]])

    def test_walk_out_of_range_then_the_list(self):
        for way in ((1,), (9, 0), (1, 2), (1, 1)):
            for event in (-1, 2, HUGE, -HUGE):
                self.assertEqual(last(*TWISTED, walk(event, *way)), [-1])
            self.assertEqual(last(*TWISTED, walk(0, *way)), [-2])

    def test_what_can_not_be_among_other_events(self):
        said = [begin(5), say(1, 1, 3, 4, 5, 6), say(2, 1, 3, 4, 8, 9)]
        for question in (*OF_TRUE_ONES, bounds(2, 2)):
            self.assertEqual(last(*said, question), [-8])
        for question in (needless(3), slack(3)):
            self.assertEqual(last(*said, say(3, 1, 0, 1, 0, 0), question), [-8])


class ChangesNothing(unittest.TestCase):
    said = [(1, 7, 0, 1, 3, 10), (2, 8, 1, 2, -4, 4), (3, 7, 0, 2, 0, 30), (4, 9, 2, 0, -5, 5)]

    def check(self, before, refused, refusal, statements):
        after = probes(3, statements)
        plain = ask(*before, *after)[len(before):]
        answered = ask(*before, refused, *after)[len(before):]
        self.assertEqual(answered[0], [refusal], refused)
        self.assertEqual(answered[1:], plain, refused)

    def test_with_some_statements(self):
        before = [begin(3)] + [say(*one) for one in self.said] + [take(4)]
        refused = [(begin(1), -1), (begin(25), -1), (say(5, 1, 0, 3, 0, 0), -1), (say(1, 1, 0, 2, 0, 0), -3),
                   (say(4, 1, 0, 2, 0, 0), -3), (say(5, 1, 2, 2, 0, 0), -4), (say(5, 1, 0, 2, 1, 0), -5),
                   (take(0), -1), (take(5), -10), (take(4), -7), (give(0), -1), (give(5), -10), (give(1), -7),
                   (drop(0), -1), (drop(5), -10), (trust(0), -1), (trust(5), -10), (bounds(0, 3), -1), (early(3), -1),
                   (late(3), -1), (shown(3), -1), (tried(0, 0), -2), (tried(0, 0, FAR + 1), -2), (why(0, 3), -1),
                   (needless(0), -1), (needless(5), -10), (needless(4), -7), (if_of(0, 3, 0, 0), -1),
                   (if_of(1, 1, 0, 0), -4), (if_of(0, 1, 1, 0), -5), (slack(0), -1), (slack(5), -10), (slack(4), -7),
                   (order(3, 0), -1), (doubt(4), -1), (who(-1), -1), (walk(3), -1), (walk(0, 4, 0), -2),
                   (walk(0, 1, 0, 1, 0), -2), (walk(0, 1), -2), (alone(0), -1), (alone(5), -10)]
        for call, refusal in refused:
            self.check(before, call, refusal, self.said)

    def test_where_they_can_not_be_true(self):
        before = [begin(3)] + [say(*one) for one in self.said] + [say(6, 9, 2, 1, 5, 6)]
        for call in (*OF_TRUE_ONES, needless(6), slack(1)):
            self.check(before, call, -8, self.said + [(6, 9, 2, 1, 5, 6)])

    def test_where_there_are_a_hundred(self):
        hundred = [say(*one) for one in self.said] + [say(k, 5, 0, 1, 0, 20) for k in range(101, 197)]
        self.check([begin(3), *hundred], say(5, 1, 0, 1, 0, 5), -6, self.said[:2])
        for call in (doubt(3), who(3)):
            self.check([begin(3), *hundred], call, -11, self.said[:2])


class Questions(unittest.TestCase):
    def test_change_nothing(self):
        said = ChangesNothing.said
        for more in ([], [say(6, 9, 2, 1, 5, 6)]):
            before = [begin(3)] + [say(*one) for one in said] + more
            after = probes(3, said)
            plain = ask(*before, *after)[len(before):]
            for question in (fit(), ring(), bounds(0, 1), early(1), late(2), tried(0, 5, 9), tried(0, 50, 9), shown(0),
                             why(0, 2), needless(1), if_of(0, 1, 4, 5), if_of(0, 1, 90, 91), slack(3), pinned(),
                             order(2, 1), *[doubt(m) for m in range(4)], *[who(m) for m in range(4)], peel(), web(),
                             walk(0, 1, 0, 2, 0), told(), alone(7)):
                self.assertEqual(ask(*before, question, *after)[len(before) + 1:], plain, question)
                twice = ask(*before, question, question)[len(before):]
                self.assertEqual(twice[0], twice[1], question)


if __name__ == "__main__":
    unittest.main()
