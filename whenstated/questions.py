"""The questions fit to shown, which change nothing. The numbers of their first rows are in their ranges."""

from whenstated.refusals import BAD_LIST, CANNOT_BE
from whenstated.rings import find_ring
from whenstated.telling import tell_maybe, tell_maybe_turned, tell_truth, tell_way
from whenstated.ways import can_all_be_true, find_bound, find_bounds_from, find_bounds_to, list_edges, settle

FARTHEST_TIME = 1000000000000
WEIGHT_OF_FURTHER_EDGES = 1000000000000


def fit(n, edges):
    return [tell_truth(can_all_be_true(n, edges))]


def ring(n, edges):
    way = find_ring(n, edges)
    if len(way) == 0:
        return [0]
    total = sum([edge.weight for edge in way])
    return [1, way[0].source, total] + tell_way(way)


def bounds(n, edges, a, b):
    if not can_all_be_true(n, edges):
        return [CANNOT_BE]
    back = find_bound(n, edges, b, a)
    there = find_bound(n, edges, a, b)
    return tell_maybe_turned(back) + tell_maybe(there)


def early(n, edges, event):
    if not can_all_be_true(n, edges):
        return [CANNOT_BE]
    told = []
    for bound in find_bounds_to(n, edges, event):
        told.extend(tell_maybe_turned(bound))
    return told


def late(n, edges, event):
    if not can_all_be_true(n, edges):
        return [CANNOT_BE]
    told = []
    for bound in find_bounds_from(n, edges, event):
        told.extend(tell_maybe(bound))
    return told


def are_times(n, row):
    """Whether the row is a time for each event, each in its range."""
    if len(row) != n:
        return False
    for time in row:
        if time < -FARTHEST_TIME or time > FARTHEST_TIME:
            return False
    return True


def tried(n, statements, row):
    """The statements come by rising keys, so the first that isn't true has the least key."""
    if not are_times(n, row):
        return [BAD_LIST]
    for statement in statements:
        passed = row[statement.b] - row[statement.a]
        if passed < statement.lo or passed > statement.hi:
            return [1, statement.key]
    return [0]


def shown(n, edges, event):
    if not can_all_be_true(n, edges):
        return [CANNOT_BE]
    # No way back to the event is below 0, so the further edges from it are of use at a way's begin alone.
    times = [WEIGHT_OF_FURTHER_EDGES] * n
    times[event] = 0
    settle(edges, times)
    return times


def answer_question(kept, call):
    """The answer of the call, None if it is no question of these."""
    n = kept.n
    numbers = call.numbers
    statements = kept.list_standing()
    edges = list_edges(statements)
    if call.name == "fit":
        return fit(n, edges)
    if call.name == "ring":
        return ring(n, edges)
    if call.name == "bounds":
        return bounds(n, edges, numbers[0], numbers[1])
    if call.name == "early":
        return early(n, edges, numbers[0])
    if call.name == "late":
        return late(n, edges, numbers[0])
    if call.name == "tried":
        return tried(n, statements, call.row)
    if call.name == "shown":
        return shown(n, edges, numbers[0])
    return None
