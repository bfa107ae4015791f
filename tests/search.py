"""Answers found by going through all ways, told straight from the words: slow, for few events and statements."""

from itertools import combinations


def edges_of(statements):
    """(source, target, weight, key, direction) in the order of edges; statements are say's numbers."""
    edges = []
    for k, w, a, b, lo, hi in sorted(statements):
        edges.append((a, b, hi, k, 0))
        edges.append((b, a, -lo, k, 1))
    return edges


def ways_from(edges, start, length):
    """All ways of just so many edges from start, as tuples of edges."""
    ways = [()]
    for i in range(length):
        longer = []
        for way in ways:
            at = way[-1][1] if way else start
            longer += [way + (edge,) for edge in edges if edge[0] == at]
        ways = longer
    return ways


def weight_of(way):
    return sum(edge[2] for edge in way)


def end_of(way, start):
    return way[-1][1] if way else start


def find_ring(n, statements):
    """The answer of ring, by the order of choice as the words tell it."""
    edges = edges_of(statements)
    for length in range(1, n + 1):
        back = []
        for start in range(n):
            for way in ways_from(edges, start, length):
                if end_of(way, start) == start and weight_of(way) < 0:
                    steps = tuple((edge[3], edge[4]) for edge in way)
                    back.append((weight_of(way), start, steps))
        if back:
            total, start, steps = min(back)
            return [1, start, total, length] + [number for step in steps for number in step]
    return [0]


def find_bound(n, statements, a, b):
    """The least sum of ways from a to b, None if there is none; the statements can all be true."""
    edges = edges_of(statements)
    found = [weight_of(way) for length in range(n)
             for way in ways_from(edges, a, length) if end_of(way, a) == b]
    return min(found, default=None)


def find_shown(n, statements, a):
    """The answer of shown, with the further edges written out as edges."""
    edges = edges_of(statements) + [(a, i, 1000000000000, 0, 0) for i in range(n)]
    told = []
    for i in range(n):
        told.append(min(weight_of(way) for length in range(n + 1)
                        for way in ways_from(edges, a, length) if end_of(way, a) == i))
    return told


def find_why(n, statements, a, b):
    """The answer of why, by the order of choice as the words tell it."""
    found = [(weight_of(way), length, tuple((edge[3], edge[4]) for edge in way)) for length in range(n)
             for way in ways_from(edges_of(statements), a, length) if end_of(way, a) == b]
    if not found:
        return [0]
    bound, length, steps = min(found)
    return [1, bound, length] + [number for step in steps for number in step]


def can_be_true(n, statements):
    return find_ring(n, statements) == [0]


def find_fewest(n, statements, column, most):
    """The answer of doubt (column 0, keys) or of who (column 1, witnesses)."""
    names = sorted({one[column] for one in statements})
    for size in range(most + 1):
        for chosen in combinations(names, size):
            if can_be_true(n, [one for one in statements if one[column] not in chosen]):
                return [0, size, *chosen]
    return [1]


def find_peeled(n, statements):
    """The answer of peel."""
    rings = []
    rest = list(statements)
    while not can_be_true(n, rest):
        keys = sorted(set(find_ring(n, rest)[4::2]))
        rings.append(keys)
        rest = [one for one in rest if one[0] not in keys]
    return [len(rings)] + [number for keys in rings for number in (len(keys), *keys)]


def follows(n, statements, a, b, lo, hi):
    """Whether a statement of a, b, lo and hi follows from the statements, which can all be true."""
    there, back = find_bound(n, statements, a, b), find_bound(n, statements, b, a)
    return there is not None and there <= hi and back is not None and back <= -lo


def maybe(number):
    return [0, 0] if number is None else [1, number]


def turned(number):
    return None if number is None else -number
