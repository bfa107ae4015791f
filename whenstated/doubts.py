"""The questions about which statements or witnesses to doubt. Their numbers are in their ranges."""

from whenstated.refusals import TOO_MANY_STAND, UNKNOWN
from whenstated.rings import find_ring
from whenstated.telling import tell_truth
from whenstated.ways import can_all_be_true, list_edges

MOST_TO_DOUBT = 24


def lengthen_choices(choices, names):
    """The choices with one more of the names each, one above all it has; in their order if choices are in theirs."""
    longer = []
    for choice in choices:
        for name in names:
            if len(choice) == 0 or name > choice[-1]:
                longer.append(choice + [name])
    return longer


def has_one_of(choice, names):
    for name in choice:
        if name in names:
            return True
    return False


def breaks_all(choice, rings):
    """Whether each of the rings, told by their names, has one of the choice."""
    for names in rings:
        if not has_one_of(choice, names):
            return False
    return True


def find_ring_without(n, statements, name_of, choice):
    """The names of the ring that is left without those of the choice; none if the rest can all be true."""
    rest = [statement for statement in statements if name_of[statement.key] not in choice]
    return [name_of[edge.key] for edge in find_ring(n, list_edges(rest))]


def find_fewest(n, statements, name_of, most):
    """The first of the fewest names, at most so many, without which the rest can all be true; None if there are none.

    name_of tells by key under which name a statement is doubted.
    """
    names = sorted(set([name_of[statement.key] for statement in statements]))
    # Whatever is chosen breaks each ring, so rings found on the way spare most choices the long look.
    rings = []
    choices = [[]]
    for size in range(most + 1):
        if size > 0:
            choices = lengthen_choices(choices, names)
        for choice in choices:
            if not breaks_all(choice, rings):
                continue
            left = find_ring_without(n, statements, name_of, choice)
            if len(left) == 0:
                return choice
            rings.append(left)
    return None


def tell_fewest(n, statements, name_of, most):
    if len(statements) > MOST_TO_DOUBT:
        return [TOO_MANY_STAND]
    choice = find_fewest(n, statements, name_of, most)
    if choice is None:
        return [1]
    return [0, len(choice)] + choice


def doubt(n, statements, most):
    return tell_fewest(n, statements, dict([(statement.key, statement.key) for statement in statements]), most)


def who(n, statements, most):
    return tell_fewest(n, statements, dict([(statement.key, statement.witness) for statement in statements]), most)


def peel(n, statements):
    """The rings that ring tells one after another, each without the statements of those ahead of it."""
    told = []
    count = 0
    rest = statements
    ring = find_ring(n, list_edges(rest))
    while len(ring) > 0:
        keys = sorted(set([edge.key for edge in ring]))
        told.append(len(keys))
        told.extend(keys)
        count = count + 1
        rest = [statement for statement in rest if statement.key not in keys]
        ring = find_ring(n, list_edges(rest))
    return [count] + told


def alone(n, statements):
    """The statements are all of one witness, those taken back too."""
    if len(statements) == 0:
        return [UNKNOWN]
    standing = [statement for statement in statements if statement.stands]
    return [tell_truth(can_all_be_true(n, list_edges(standing)))]


def answer_doubt(kept, call):
    """The answer of the call, None if it is no question of these."""
    if call.name == "doubt":
        return doubt(kept.n, kept.list_standing(), call.numbers[0])
    if call.name == "who":
        return who(kept.n, kept.list_standing(), call.numbers[0])
    if call.name == "peel":
        return peel(kept.n, kept.list_standing())
    if call.name == "alone":
        return alone(kept.n, kept.list_of_witness(call.numbers[0]))
    return None
