"""The answers beside those found by going through all ways, over many small collections of statements."""

import random
import unittest

from tests.helper import (alone, ask, begin, bounds, doubt, early, fit, if_of, late, needless, order, peel, pinned,
                          ring, say, shown, slack, tried, walk, web, who, why)
from tests.search import (can_be_true, find_bound, find_fewest, find_peeled, find_ring, find_shown, find_why, follows,
                          maybe, turned)


def draw_pairs(rnd, n, count, apart):
    """Pairs of events; where they are to be apart each but once, so that rings have three edges or more."""
    if not apart:
        return [rnd.sample(range(n), 2) for i in range(count)]
    pairs = [(a, b) for a in range(n) for b in range(a)]
    return [rnd.sample(pair, 2) for pair in rnd.sample(pairs, min(count, len(pairs)))]


def draw_statements(rnd, n, count, reach, breadth, apart=False):
    """Statements with low numbers, so that sums often tie."""
    keys = rnd.sample(range(1, 13), count)
    said = []
    for k, (a, b) in zip(keys, draw_pairs(rnd, n, count, apart)):
        lo = rnd.randint(-reach, reach)
        said.append((k, rnd.randint(1, 3), a, b, lo, lo + rnd.randint(0, breadth)))
    return said


class BesideTheSearch(unittest.TestCase):
    def test_ring_and_fit(self):
        rnd = random.Random(7)
        lengths = {}
        for turn in range(1200):
            n = rnd.randint(2, 4)
            said = draw_statements(rnd, n, rnd.randint(1, 5), rnd.choice((1, 2, 6)), rnd.choice((0, 1, 3)),
                                   rnd.random() < 0.6)
            told = ask(begin(n), *[say(*one) for one in said], fit(), ring())
            found = find_ring(n, said)
            self.assertEqual(told[-1], found, said)
            self.assertEqual(told[-2], [1 - found[0]], said)
            length = found[3] if found[0] else 0
            lengths[length] = lengths.get(length, 0) + 1
        for length in (0, 2, 3, 4):
            self.assertGreater(lengths.get(length, 0), 4, lengths)

    def test_bounds_early_late_shown(self):
        rnd = random.Random(8)
        checked = 0
        for turn in range(600):
            n = rnd.randint(2, 4)
            said = draw_statements(rnd, n, rnd.randint(1, 4), 6, rnd.choice((2, 8)))
            calls = [begin(n), *[say(*one) for one in said]]
            if find_ring(n, said) != [0]:
                self.assertEqual(ask(*calls, bounds(0, 1), early(0), late(1), shown(0))[-4:], [[-8]] * 4)
                continue
            checked += 1
            self.check_what_follows(n, said, calls)
        self.assertGreater(checked, 100)

    def check_what_follows(self, n, said, calls):
        bound = [[find_bound(n, said, a, b) for b in range(n)] for a in range(n)]
        for a in range(n):
            told = ask(*calls, early(a), late(a), shown(a), *[bounds(a, b) for b in range(n)])[len(calls):]
            self.assertEqual(told[0], [x for i in range(n) for x in maybe(turned(bound[i][a]))], said)
            self.assertEqual(told[1], [x for i in range(n) for x in maybe(bound[a][i])], said)
            self.assertEqual(told[2], find_shown(n, said, a), said)
            self.assertEqual(ask(*calls, tried(*told[2]))[-1], [0], said)
            for b in range(n):
                self.assertEqual(told[3 + b], maybe(turned(bound[b][a])) + maybe(bound[a][b]), said)

    def test_tried(self):
        rnd = random.Random(9)
        for turn in range(500):
            n = rnd.randint(2, 4)
            said = draw_statements(rnd, n, rnd.randint(1, 5), 4, 4)
            times = [rnd.randint(-5, 5) for i in range(n)]
            wrong = [k for k, w, a, b, lo, hi in said if not lo <= times[b] - times[a] <= hi]
            told = ask(begin(n), *[say(*one) for one in said], tried(*times))[-1]
            self.assertEqual(told, [1, min(wrong)] if wrong else [0], said)

    def test_why_and_what_follows(self):
        rnd = random.Random(10)
        lengths, follow = {}, {}
        for turn in range(400):
            n = rnd.randint(2, 4)
            said = draw_statements(rnd, n, rnd.randint(1, 5), rnd.choice((0, 1, 3)), rnd.choice((1, 2, 5)))
            calls = [begin(n), *[say(*one) for one in said]]
            if not can_be_true(n, said):
                self.assertEqual(ask(*calls, why(0, 1), needless(said[0][0]), slack(said[0][0]), pinned(), order(1, 0),
                                     web(), if_of(0, 1, 0, 0))[len(calls):], [[-8]] * 7)
                continue
            for a in range(n):
                for b in range(n):
                    told = self.check_why(n, said, calls, a, b)
                    length = told[2] if told[0] else None
                    lengths[length] = lengths.get(length, 0) + 1
            for one in said:
                told = self.check_statement(n, said, calls, one)
                follow[told] = follow.get(told, 0) + 1
        for length in (None, 0, 1, 2, 3):
            self.assertGreater(lengths.get(length, 0), 20, lengths)
        for told in (0, 1):
            self.assertGreater(follow.get(told, 0), 20, follow)

    def check_why(self, n, said, calls, a, b):
        told, placed = ask(*calls, why(a, b), order(a, b))[len(calls):]
        self.assertEqual(told, find_why(n, said, a, b), said)
        if told[0]:
            self.assertEqual(ask(*calls, walk(a, *told[3:]))[-1], [0, b, told[1]], said)
        least, greatest = turned(find_bound(n, said, b, a)), find_bound(n, said, a, b)
        times = [time for time in range(-30, 31)
                 if (least is None or time >= least) and (greatest is None or time <= greatest)]
        self.assertEqual(placed, [int(any(time < 0 for time in times)), int(0 in times),
                                  int(any(time > 0 for time in times))], said)
        return told

    def check_statement(self, n, said, calls, one):
        k, w, a, b, lo, hi = one
        told, room = ask(*calls, needless(k), slack(k))[len(calls):]
        others = [other for other in said if other != one]
        self.assertEqual(told, [int(follows(n, others, a, b, lo, hi))], (said, one))
        self.assertEqual(room, [-find_bound(n, said, b, a) - lo, hi - find_bound(n, said, a, b)], (said, one))
        # What is needless follows from the others when it isn't said at all.
        rest = [begin(n), *[say(*other) for other in others]]
        self.assertEqual(ask(*rest, if_of(a, b, lo, hi))[-1], [told[0]], (said, one))
        return told[0]

    def test_if(self):
        rnd = random.Random(11)
        seen = {}
        for turn in range(1200):
            n = rnd.randint(2, 4)
            said = draw_statements(rnd, n, rnd.randint(1, 4), 3, 4)
            a, b = rnd.sample(range(n), 2)
            lo = rnd.randint(-9, 5)
            hi = lo + rnd.randint(0, 12)
            if can_be_true(n, said):
                told = ask(begin(n), *[say(*one) for one in said], if_of(a, b, lo, hi))[-1]
                can_be = can_be_true(n, said + [(99, 1, a, b, lo, hi)])
                found = 1 if follows(n, said, a, b, lo, hi) else 0 if can_be else 2
                self.assertEqual(told, [found], (said, a, b, lo, hi))
                seen[found] = seen.get(found, 0) + 1
        for found in (0, 1, 2):
            self.assertGreater(seen.get(found, 0), 20, seen)

    def test_pinned_and_web(self):
        rnd = random.Random(12)
        sizes = {}
        for turn in range(300):
            n = rnd.randint(2, 4)
            said = draw_statements(rnd, n, rnd.randint(1, 4), 2, rnd.choice((0, 0, 1, 3)))
            if not can_be_true(n, said):
                continue
            bound = [[find_bound(n, said, a, b) for b in range(n)] for a in range(n)]
            told = ask(begin(n), *[say(*one) for one in said], pinned(), web())[-2:]
            self.assertEqual(told[1], [x for i in range(n) for j in range(n) for x in maybe(bound[i][j])], said)
            groups = sorted({tuple(j for j in range(n) if None not in (bound[i][j], bound[j][i])
                                   and bound[i][j] + bound[j][i] == 0) for i in range(n)})
            found = [len(groups)]
            for group in groups:
                found += [len(group), *group, *[bound[group[0]][i] for i in group]]
                sizes[len(group)] = sizes.get(len(group), 0) + 1
            self.assertEqual(told[0], found, said)
        for size in (1, 2, 3, 4):
            self.assertGreater(sizes.get(size, 0), 4, sizes)

    def test_doubt_who_peel_alone(self):
        rnd = random.Random(13)
        sizes, peeled = {}, {}
        for turn in range(400):
            n = rnd.choice((2, 2, 3, 3, 4))
            said = draw_statements(rnd, n, rnd.randint(1, 7 if n < 4 else 5), rnd.choice((1, 2, 6)), rnd.choice((0, 2)))
            calls = [begin(n), *[say(*one) for one in said]]
            told = ask(*calls, *[doubt(m) for m in range(4)], *[who(m) for m in range(4)], peel())[len(calls):]
            for m in range(4):
                self.assertEqual(told[m], find_fewest(n, said, 0, m), (said, m))
                self.assertEqual(told[4 + m], find_fewest(n, said, 1, m), (said, m))
            self.assertEqual(told[8], find_peeled(n, said), said)
            for w in sorted({one[1] for one in said}):
                self.assertEqual(ask(*calls, alone(w))[-1], [int(can_be_true(n, [one for one in said if one[1] == w]))])
            size = told[3][1] if told[3][0] == 0 else None
            sizes[size] = sizes.get(size, 0) + 1
            peeled[told[8][0]] = peeled.get(told[8][0], 0) + 1
        for size in (None, 0, 1, 2, 3):
            self.assertGreater(sizes.get(size, 0), 4, sizes)
        for count in (0, 1, 2, 3):
            self.assertGreater(peeled.get(count, 0), 2, peeled)


if __name__ == "__main__":
    unittest.main()
