"""The questions about what follows from statements that can all be true. Their numbers are in their ranges."""

from whenstated.firsts import find_least_way
from whenstated.kept import Statement
from whenstated.refusals import ALREADY_SO, CANNOT_BE, HI_BELOW_LO, SAME_EVENT, UNKNOWN
from whenstated.telling import tell_maybe, tell_truth, tell_way
from whenstated.ways import can_all_be_true, find_bound, find_bounds_from, list_edges

ANSWERED_HERE = ("why", "needless", "if_of", "slack", "pinned", "order", "web")


def find_web(n, edges):
    """By event: the bounds from it to each event."""
    return [find_bounds_from(n, edges, i) for i in range(n)]


def is_at_most(bound, number):
    return bound is not None and bound <= number


def does_follow(n, edges, statement):
    """Whether the statement follows from the edges by themselves."""
    if not is_at_most(find_bound(n, edges, statement.a, statement.b), statement.hi):
        return False
    return is_at_most(find_bound(n, edges, statement.b, statement.a), -statement.lo)


def why(n, edges, a, b):
    bound = find_bound(n, edges, a, b)
    if bound is None:
        return [0]
    return [1, bound] + tell_way(find_least_way(n, edges, a, b, bound))


def needless(n, edges, statement):
    others = [edge for edge in edges if edge.key != statement.key]
    return [tell_truth(does_follow(n, others, statement))]


def if_of(n, edges, statement):
    if does_follow(n, edges, statement):
        return [1]
    if can_all_be_true(n, edges + list_edges([statement])):
        return [0]
    return [2]


def slack(n, edges, statement):
    """Neither bound is open: the statement itself stands."""
    least = -find_bound(n, edges, statement.b, statement.a)
    greatest = find_bound(n, edges, statement.a, statement.b)
    return [least - statement.lo, statement.hi - greatest]


def are_pinned(web_of_all, i, j):
    """Whether i and j are in one class."""
    there = web_of_all[i][j]
    back = web_of_all[j][i]
    return there is not None and back is not None and there + back == 0


def list_classes(web_of_all):
    """The classes, each its events, rising, by their first events."""
    n = len(web_of_all)
    placed = {}
    classes = []
    for i in range(n):
        if i in placed:
            continue
        members = [j for j in range(i, n) if are_pinned(web_of_all, i, j)]
        for member in members:
            placed[member] = True
        classes.append(members)
    return classes


def pinned(n, edges):
    web_of_all = find_web(n, edges)
    classes = list_classes(web_of_all)
    told = [len(classes)]
    for members in classes:
        from_first = web_of_all[members[0]]
        told.append(len(members))
        told.extend(members)
        told.extend([from_first[member] for member in members])
    return told


def order(n, edges, a, b):
    there = find_bound(n, edges, a, b)
    back = find_bound(n, edges, b, a)
    # The least that the time of b less that of a can be is the bound back with the other sign.
    before = back is None or -back < 0
    after = there is None or there > 0
    same = (back is None or -back <= 0) and (there is None or there >= 0)
    return [tell_truth(before), tell_truth(same), tell_truth(after)]


def web(n, edges):
    told = []
    for bounds_from in find_web(n, edges):
        for bound in bounds_from:
            told.extend(tell_maybe(bound))
    return told


def find_refusal_of_key(kept, key):
    """The refusal that is due where the statement of the key is to stand, None if there is none."""
    if key not in kept.by_key:
        return UNKNOWN
    if not kept.by_key[key].stands:
        return ALREADY_SO
    return None


def find_refusal_of_if(a, b, lo, hi):
    if a == b:
        return SAME_EVENT
    if hi < lo:
        return HI_BELOW_LO
    return None


def find_refusal(kept, call, edges):
    """The refusal that is due, None if there is none."""
    numbers = call.numbers
    refusal = None
    if call.name == "needless" or call.name == "slack":
        refusal = find_refusal_of_key(kept, numbers[0])
    if call.name == "if_of":
        refusal = find_refusal_of_if(numbers[0], numbers[1], numbers[2], numbers[3])
    if refusal is None and not can_all_be_true(kept.n, edges):
        refusal = CANNOT_BE
    return refusal


def answer_follows(kept, call):
    """The answer of the call, None if it is no question of these."""
    if call.name not in ANSWERED_HERE:
        return None
    n = kept.n
    numbers = call.numbers
    edges = list_edges(kept.list_standing())
    refusal = find_refusal(kept, call, edges)
    if refusal is not None:
        return [refusal]
    if call.name == "why":
        return why(n, edges, numbers[0], numbers[1])
    if call.name == "needless":
        return needless(n, edges, kept.by_key[numbers[0]])
    if call.name == "if_of":
        # It is of no witness and isn't kept, so it needs no key either.
        return if_of(n, edges, Statement(0, 0, numbers[0], numbers[1], numbers[2], numbers[3]))
    if call.name == "slack":
        return slack(n, edges, kept.by_key[numbers[0]])
    if call.name == "pinned":
        return pinned(n, edges)
    if call.name == "order":
        return order(n, edges, numbers[0], numbers[1])
    return web(n, edges)
