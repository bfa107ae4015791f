"""One list of whole numbers in, one out; nothing changed, kept, printed."""

import contextlib
import inspect
import io
import sys
import unittest

from tests.helper import (BILLION, alone, ask, begin, bounds, cut, doubt, drop, early, fit, give, if_of, join, last,
                          late, needless, order, peel, pinned, ring, say, shown, slack, take, told, tried, trust, walk,
                          web, who, why)
from whenstated.reading import read_calls
from whenstated.times import answers

# Every call: what the statements that stand leave open, and what is told where they can't all be true.
MANY = join([say(1, 1, 0, 1, 3, 10), bounds(0, 1), begin(3), say(4, 2, 0, 1, 3, 10), say(5, 3, 1, 2, -5, 5), fit(),
             tried(0, 4, 4), tried(0, 4), late(0), early(2), shown(1), say(6, 2, 0, 2, 50, 60), ring(), shown(0),
             peel(), doubt(1), doubt(0), who(3), alone(2), web(), drop(2), trust(2), take(6), why(0, 2), needless(5),
             if_of(0, 2, -2, 15), slack(4), slack(6), pinned(), order(2, 0), web(), walk(0, 4, 0, 5, 0), walk(0, 4),
             walk(1), told(), give(6), begin(99)])


def forbid(self, *given, **named):
    raise AssertionError("the list that was handed in is changed")


class Locked(list):
    """A list that can't be changed, not for a while either."""
    append = clear = extend = insert = pop = remove = reverse = sort = forbid
    __setitem__ = __delitem__ = __iadd__ = __imul__ = forbid


class OneList(unittest.TestCase):
    def test_how_many_numbers_each_answer_has_and_then_these(self):
        self.assertEqual(answers([6]), [1, 1])
        self.assertEqual(answers([0, 3, 9, 1]), [1, 0, 6, 0, 0, 1, 0, 0, 0])
        self.assertEqual(answers([1, 4, 9, 0, 1, 3, 10, 8, 0, 1, 4, 9, 2, 4]), [1, 0, 4, 1, 3, 1, 10, 2, 0, 1, 1, -7])

    def test_each_call_is_read_to_its_end(self):
        self.assertEqual(cut(answers(MANY)), [
            [0], [1, 3, 1, 10], [0], [0], [0], [1], [0], [-2], [1, 0, 1, 10, 1, 15], [1, -15, 1, -5, 1, 0], [-3, 0, 5],
            [0], [1, 0, -35, 3, 4, 0, 5, 0, 6, 1], [-8], [1, 3, 4, 5, 6], [0, 1, 4], [1], [0, 1, 2], [1], [-8], [0, 2],
            [0, 2], [0], [1, 15, 2, 4, 0, 5, 0], [0], [1], [0, 0], [-7], [3, 1, 0, 0, 1, 1, 0, 1, 2, 0], [1, 1, 1],
            [1, 0, 1, 10, 1, 15, 1, -3, 1, 0, 1, 5, 1, 2, 1, 5, 1, 0], [0, 2, 15], [-2], [0, 1, 0],
            [3, 3, 4, 2, 0, 1, 3, 10, 1, 5, 3, 1, 2, -5, 5, 1, 6, 2, 0, 2, 50, 60, 0], [0], [-1]])

    def test_a_row_of_another_count_is_read_to_its_end(self):
        self.assertEqual(ask(tried(), fit(), tried(6), fit(), tried(6, 7, 8), fit(), tried(*[11] * 1990), fit()),
                         [[-2], [1]] * 4)
        self.assertEqual(ask(walk(0), fit(), walk(0, 6), fit(), walk(0, 6, 7, 8), fit(), walk(5, *[23] * 1990), fit()),
                         [[0, 0, 0], [1], [-2], [1], [-2], [1], [-1], [1]])

    def test_any_call_may_be_the_first(self):
        firsts = [(begin(24), [0]), (say(1, 1, 0, 1, 0, 0), [0]), (take(1), [-10]), (give(1), [-10]), (drop(1), [-10]),
                  (trust(1), [-10]), (fit(), [1]), (ring(), [0]), (bounds(0, 1), [0, 0, 0, 0]),
                  (bounds(1, 1), [1, 0, 1, 0]), (early(0), [1, 0, 0, 0]), (late(1), [0, 0, 1, 0]), (tried(0, 9), [0]),
                  (tried(), [-2]), (shown(1), [1000000000000, 0]), (why(0, 1), [0]), (needless(1), [-10]),
                  (if_of(0, 1, 2, 3), [0]), (slack(1), [-10]), (pinned(), [2, 1, 0, 0, 1, 1, 0]),
                  (order(0, 1), [1, 1, 1]), (doubt(0), [0, 0]), (who(3), [0, 0]), (peel(), [0]),
                  (web(), [1, 0, 0, 0, 0, 0, 1, 0]), (walk(1), [0, 1, 0]), (told(), [2, 0]), (alone(1), [-10])]
        for call, answer in firsts:
            self.assertEqual(last(call), answer)

    def test_two_hundred_calls(self):
        said = [say(k, k, k % 24, (k * 5 + 1) % 24 if k % 24 != (k * 5 + 1) % 24 else (k + 1) % 24, -k, 0)
                for k in range(1, 100)]
        answered = ask(begin(24), *said, *[ring()] * 100)
        self.assertEqual(answered[:100], [[0]] * 100)
        self.assertEqual(answered[100:], [answered[100]] * 100)

    def test_the_longest_ring_told_often(self):
        said = [say(i + 1, 1, i % 24, (i + 1) % 24, -BILLION, -1 if i == 0 else 0) for i in range(24)]
        said += [say(i + 1, 1, i % 24, (i * 7 + 2) % 24, -BILLION, BILLION) for i in range(24, 99)
                 if i % 24 != (i * 7 + 2) % 24]
        answered = ask(begin(24), *said, *[ring()] * 100)
        self.assertEqual(answered[-1][:4], [1, 0, -1, 24])

    def test_how_the_places_from_13_on_lie_in_the_list(self):
        calls = [[13, 0, 1], [14, 5], [15, 0, 1, -2, 3], [16, 5], [17], [18, 0, 1], [19, 3], [20, 2], [21], [22],
                 [23, 1, 4, 5, 0, 6, 1], [23, 1, 0], [24], [25, 9], [11, 2, 7, 8], [6]]
        read = read_calls(join(calls))
        names = ["why", "needless", "if_of", "slack", "pinned", "order", "doubt", "who", "peel", "web", "walk", "walk",
                 "told", "alone", "tried", "fit"]
        self.assertEqual([call.name for call in read], names)
        self.assertEqual([call.row for call in read], [[]] * 10 + [[5, 0, 6, 1]] + [[]] * 3 + [[7, 8], []])
        self.assertEqual([call.numbers for call in read],
                         [[0, 1], [5], [0, 1, -2, 3], [5], [], [0, 1], [3], [2], [], [], [1], [1], [], [9], [], []])


class NothingElse(unittest.TestCase):
    def test_the_list_handed_in_is_as_it_was(self):
        calls = list(MANY)
        answers(calls)
        self.assertEqual(calls, MANY)

    def test_the_list_handed_in_is_never_changed(self):
        self.assertEqual(answers(Locked(MANY)), answers(MANY))

    def test_the_answer_is_a_list_of_its_own(self):
        calls = list(MANY)
        answered = answers(calls)
        answered.clear()
        self.assertEqual(calls, MANY)
        self.assertEqual(len(cut(answers(calls))), 37)

    def test_the_same_list_twice(self):
        self.assertEqual(answers(MANY), answers(MANY))

    def test_nothing_is_kept_from_one_time_to_the_next(self):
        answers(join([begin(9), say(1, 1, 0, 1, 3, 10)]))
        self.assertEqual(ask(late(2), take(1), late(0)), [[-1], [-10], [1, 0, 0, 0]])

    def test_a_list_of_whole_numbers_never_true_or_false(self):
        answered = answers(MANY)
        self.assertIs(type(answered), list)
        self.assertEqual({type(number) for number in answered}, {int})

    def test_what_is_long_is_gone_through_by_loops(self):
        said = [say(k, k, k % 23, k % 23 + 1, k, k + 1) for k in range(1, 101)]
        long_ones = [join([begin(24), *said, walk(1, *[1, 0, 1, 1] * 500), peel(), ring(), *[fit()] * 90]),
                     join([begin(24), *said[:22], why(1, 23), web(), pinned(), doubt(3), who(3), tried(*[0] * 1900)])]
        usual = [answers(calls) for calls in long_ones]
        limit = sys.getrecursionlimit()
        sys.setrecursionlimit(len(inspect.stack()) + 30)
        try:
            answered = [answers(calls) for calls in long_ones]
        finally:
            sys.setrecursionlimit(limit)
        self.assertEqual(answered, usual)

    def test_nothing_is_printed(self):
        out, err = io.StringIO(), io.StringIO()
        with contextlib.redirect_stdout(out), contextlib.redirect_stderr(err):
            answers(MANY)
        self.assertEqual(out.getvalue() + err.getvalue(), "")


if __name__ == "__main__":
    unittest.main()
