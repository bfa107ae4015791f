"""Answers found by going through all ways, told straight from the words: slow, for few events and statements."""


def edges_of(statements):
    """(source, target, weight, key, direction) in the order of edges; statements are say's numbers."""
    edges = []
    for k, w, a, b, lo, hi in sorted(statements):
        edges.append((a, b, hi, k, 0))
        edges.append((b, a, -lo, k, 1))
    return edges


def ways_from(edges, start, length):
    """All ways of just so many edges from start, as tuples of edges."""
    ways = [()]
    for i in range(length):
        longer = []
        for way in ways:
            at = way[-1][1] if way else start
            longer += [way + (edge,) for edge in edges if edge[0] == at]
        ways = longer
    return ways


def weight_of(way):
    return sum(edge[2] for edge in way)


def end_of(way, start):
    return way[-1][1] if way else start


def find_ring(n, statements):
    """The answer of ring, by the order of choice as the words tell it."""
    edges = edges_of(statements)
    for length in range(1, n + 1):
        back = []
        for start in range(n):
            for way in ways_from(edges, start, length):
                if end_of(way, start) == start and weight_of(way) < 0:
                    steps = tuple((edge[3], edge[4]) for edge in way)
                    back.append((weight_of(way), start, steps))
        if back:
            total, start, steps = min(back)
            return [1, start, total, length] + [number for step in steps for number in step]
    return [0]


def find_bound(n, statements, a, b):
    """The least sum of ways from a to b, None if there is none; the statements can all be true."""
    edges = edges_of(statements)
    found = [weight_of(way) for length in range(n)
             for way in ways_from(edges, a, length) if end_of(way, a) == b]
    return min(found, default=None)


def find_shown(n, statements, a):
    """The answer of shown, with the further edges written out as edges."""
    edges = edges_of(statements) + [(a, i, 1000000000000, 0, 0) for i in range(n)]
    told = []
    for i in range(n):
        told.append(min(weight_of(way) for length in range(n + 1)
                        for way in ways_from(edges, a, length) if end_of(way, a) == i))
    return told


def maybe(number):
    return [0, 0] if number is None else [1, number]


def turned(number):
    return None if number is None else -number
