"""The calls that change what is kept. Their numbers are in their ranges."""

from whenstated.kept import Statement
from whenstated.refusals import ALREADY_SO, HI_BELOW_LO, KEY_TAKEN, SAME_EVENT, TOO_MANY, UNKNOWN

MOST_STATEMENTS = 100


def begin(kept, n):
    kept.n = n
    kept.by_key = {}
    return [0]


def find_refusal_of_say(kept, statement):
    """The refusal that is due for a new statement, None if there is none."""
    if statement.key in kept.by_key:
        return KEY_TAKEN
    if statement.a == statement.b:
        return SAME_EVENT
    if statement.hi < statement.lo:
        return HI_BELOW_LO
    if len(kept.by_key) >= MOST_STATEMENTS:
        return TOO_MANY
    return None


def say(kept, statement):
    refusal = find_refusal_of_say(kept, statement)
    if refusal is not None:
        return [refusal]
    kept.by_key[statement.key] = statement
    return [0]


def set_one(kept, key, stands):
    """Lets the statement of the key stand or takes it back."""
    if key not in kept.by_key:
        return [UNKNOWN]
    statement = kept.by_key[key]
    if statement.stands == stands:
        return [ALREADY_SO]
    statement.stands = stands
    return [0]


def set_all(kept, witness, stands):
    """Lets all statements of the witness stand or takes them back."""
    statements = kept.list_of_witness(witness)
    if len(statements) == 0:
        return [UNKNOWN]
    changed = 0
    for statement in statements:
        if statement.stands != stands:
            statement.stands = stands
            changed = changed + 1
    return [0, changed]


def answer_change(kept, name, numbers):
    """The answer of the call of this name, None if it is none that changes."""
    if name == "begin":
        return begin(kept, numbers[0])
    if name == "say":
        return say(kept, Statement(numbers[0], numbers[1], numbers[2], numbers[3], numbers[4], numbers[5]))
    if name == "take":
        return set_one(kept, numbers[0], False)
    if name == "give":
        return set_one(kept, numbers[0], True)
    if name == "drop":
        return set_all(kept, numbers[0], False)
    if name == "trust":
        return set_all(kept, numbers[0], True)
    return None
