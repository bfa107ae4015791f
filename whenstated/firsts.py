"""The first of the ways to one event, the goal, that have the least sum and just so many edges.

Sums hold, by event, the least sum of the ways of just so many edges from it to the goal, None if there is no such way.
"""


def make_sums_of_no_edges(n, goal):
    sums = [None] * n
    sums[goal] = 0
    return sums


def lengthen(edges, sums):
    """The sums of the ways that have one edge more."""
    longer = [None] * len(sums)
    for edge in edges:
        onward = sums[edge.target]
        if onward is None:
            continue
        reached = edge.weight + onward
        held = longer[edge.source]
        if held is None or reached < held:
            longer[edge.source] = reached
    return longer


def find_first_edge(edges, source, sums, total):
    """The first edge from source behind which a way of sums leads to the goal, with this total of both."""
    for edge in edges:
        if edge.source != source:
            continue
        onward = sums[edge.target]
        if onward is not None and edge.weight + onward == total:
            return edge
    return None


def find_first_way(edges, steps, source):
    """The first of the ways from source to the goal with the least sum and as many edges as the last step is of.

    The steps are the sums of 0, 1, 2 and so on edges, and the last has such a way. The edges are in their order.
    """
    way = []
    at = source
    total = steps[-1][source]
    for sums in reversed(steps[:-1]):
        edge = find_first_edge(edges, at, sums, total)
        way.append(edge)
        at = edge.target
        total = total - edge.weight
    return way


def find_least_way(n, edges, a, b, bound):
    """The first of the ways from a to b with the fewest edges whose sum is the bound, which is not open."""
    steps = [make_sums_of_no_edges(n, b)]
    while steps[-1][a] != bound:
        steps.append(lengthen(edges, steps[-1]))
    return find_first_way(edges, steps, a)
