"""Edges of statements, the ways over them, and the least sums of ways."""


class Edge:
    """Says that the time of target is at most that of source and weight more."""

    def __init__(self, source, target, weight, key, direction):
        self.source = source
        self.target = target
        self.weight = weight
        self.key = key
        self.direction = direction


def list_edges(statements):
    """The two edges of each statement. They are in their order if the statements come by rising keys."""
    edges = []
    for statement in statements:
        edges.append(Edge(statement.a, statement.b, statement.hi, statement.key, 0))
        edges.append(Edge(statement.b, statement.a, -statement.lo, statement.key, 1))
    return edges


def turn_edges(edges):
    """The same edges, each gone the other way round with the same weight."""
    return [Edge(edge.target, edge.source, edge.weight, edge.key, edge.direction) for edge in edges]


def lower_once(edges, sums):
    """Lowers sums over each edge once; tells whether one was lowered. None stands for no way."""
    lowered = False
    for edge in edges:
        before = sums[edge.source]
        if before is None:
            continue
        reached = before + edge.weight
        held = sums[edge.target]
        if held is None or reached < held:
            sums[edge.target] = reached
            lowered = True
    return lowered


def settle(edges, sums):
    """Lowers sums until no edge lowers one; False if that has no end."""
    # A least way meets no event twice, so as many turns as there are events suffice, the last to see that all is still.
    for turn in range(len(sums)):
        if not lower_once(edges, sums):
            return True
    return False


def can_all_be_true(n, edges):
    """Whether no way back to where it began has a sum below 0."""
    return settle(edges, [0] * n)


def find_bounds_from(n, edges, event):
    """By event: the bound to it from the told one, None if it is open. The edges can all be true."""
    sums = [None] * n
    sums[event] = 0
    settle(edges, sums)
    return sums


def find_bounds_to(n, edges, event):
    """By event: the bound from it to the told one, None if it is open. The edges can all be true."""
    return find_bounds_from(n, turn_edges(edges), event)


def find_bound(n, edges, a, b):
    """The bound from a to b, None if it is open. The edges can all be true."""
    return find_bounds_from(n, edges, a)[b]
