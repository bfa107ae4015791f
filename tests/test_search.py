"""The answers beside those found by going through all ways, over many small collections of statements."""

import random
import unittest

from tests.helper import ask, begin, bounds, early, fit, late, ring, say, shown, tried
from tests.search import find_bound, find_ring, find_shown, maybe, turned


def draw_pairs(rnd, n, count, apart):
    """Pairs of events; where they are to be apart each but once, so that rings have three edges or more."""
    if not apart:
        return [rnd.sample(range(n), 2) for i in range(count)]
    pairs = [(a, b) for a in range(n) for b in range(a)]
    return [rnd.sample(pair, 2) for pair in rnd.sample(pairs, min(count, len(pairs)))]


def draw_statements(rnd, n, count, reach, breadth, apart=False):
    """Statements with low numbers, so that sums often tie."""
    keys = rnd.sample(range(1, 13), count)
    said = []
    for k, (a, b) in zip(keys, draw_pairs(rnd, n, count, apart)):
        lo = rnd.randint(-reach, reach)
        said.append((k, rnd.randint(1, 3), a, b, lo, lo + rnd.randint(0, breadth)))
    return said


class BesideTheSearch(unittest.TestCase):
    def test_ring_and_fit(self):
        rnd = random.Random(7)
        lengths = {}
        for turn in range(1200):
            n = rnd.randint(2, 4)
            said = draw_statements(rnd, n, rnd.randint(1, 5), rnd.choice((1, 2, 6)), rnd.choice((0, 1, 3)),
                                   rnd.random() < 0.6)
            told = ask(begin(n), *[say(*one) for one in said], fit(), ring())
            found = find_ring(n, said)
            self.assertEqual(told[-1], found, said)
            self.assertEqual(told[-2], [1 - found[0]], said)
            length = found[3] if found[0] else 0
            lengths[length] = lengths.get(length, 0) + 1
        for length in (0, 2, 3, 4):
            self.assertGreater(lengths.get(length, 0), 4, lengths)

    def test_bounds_early_late_shown(self):
        rnd = random.Random(8)
        checked = 0
        for turn in range(600):
            n = rnd.randint(2, 4)
            said = draw_statements(rnd, n, rnd.randint(1, 4), 6, rnd.choice((2, 8)))
            calls = [begin(n), *[say(*one) for one in said]]
            if find_ring(n, said) != [0]:
                self.assertEqual(ask(*calls, bounds(0, 1), early(0), late(1), shown(0))[-4:], [[-8]] * 4)
                continue
            checked += 1
            self.check_what_follows(n, said, calls)
        self.assertGreater(checked, 100)

    def check_what_follows(self, n, said, calls):
        bound = [[find_bound(n, said, a, b) for b in range(n)] for a in range(n)]
        for a in range(n):
            told = ask(*calls, early(a), late(a), shown(a), *[bounds(a, b) for b in range(n)])[len(calls):]
            self.assertEqual(told[0], [x for i in range(n) for x in maybe(turned(bound[i][a]))], said)
            self.assertEqual(told[1], [x for i in range(n) for x in maybe(bound[a][i])], said)
            self.assertEqual(told[2], find_shown(n, said, a), said)
            self.assertEqual(ask(*calls, tried(*told[2]))[-1], [0], said)
            for b in range(n):
                self.assertEqual(told[3 + b], maybe(turned(bound[b][a])) + maybe(bound[a][b]), said)

    def test_tried(self):
        rnd = random.Random(9)
        for turn in range(500):
            n = rnd.randint(2, 4)
            said = draw_statements(rnd, n, rnd.randint(1, 5), 4, 4)
            times = [rnd.randint(-5, 5) for i in range(n)]
            wrong = [k for k, w, a, b, lo, hi in said if not lo <= times[b] - times[a] <= hi]
            told = ask(begin(n), *[say(*one) for one in said], tried(*times))[-1]
            self.assertEqual(told, [1, min(wrong)] if wrong else [0], said)


if __name__ == "__main__":
    unittest.main()
