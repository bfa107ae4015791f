"""Builds calls, asks them of the program, and cuts its answers apart."""

from whenstated.times import answers

BILLION = 1000000000
FAR = 1000000000000
HUGE = 1000000000000000000


def begin(n):
    return [0, n]


def say(k, w, a, b, lo, hi):
    return [1, k, w, a, b, lo, hi]


def take(k):
    return [2, k]


def give(k):
    return [3, k]


def drop(w):
    return [4, w]


def trust(w):
    return [5, w]


def fit():
    return [6]


def ring():
    return [7]


def bounds(a, b):
    return [8, a, b]


def early(o):
    return [9, o]


def late(o):
    return [10, o]


def tried(*times):
    return [11, len(times), *times]


def shown(a):
    return [12, a]


def why(a, b):
    return [13, a, b]


def needless(k):
    return [14, k]


def if_of(a, b, lo, hi):
    return [15, a, b, lo, hi]


def slack(k):
    return [16, k]


def pinned():
    return [17]


def order(a, b):
    return [18, a, b]


def doubt(m):
    return [19, m]


def who(m):
    return [20, m]


def peel():
    return [21]


def web():
    return [22]


def walk(a, *way):
    return [23, a, len(way), *way]


def told():
    return [24]


def alone(w):
    return [25, w]


def join(calls):
    return [number for call in calls for number in call]


def cut(numbers):
    """The answers, one list each."""
    cut_out = []
    at = 0
    while at < len(numbers):
        past = at + 1 + numbers[at]
        cut_out.append(numbers[at + 1:past])
        at = past
    assert at == len(numbers), "the last answer is cut short"
    return cut_out


def ask(*calls):
    """The answers of these calls, one list each."""
    answered = cut(answers(join(calls)))
    assert len(answered) == len(calls), "not one answer for each call"
    return answered


def last(*calls):
    """The answer of the last of these calls."""
    return ask(*calls)[-1]


def probes(n, statements):
    """Calls whose answers tell all that is kept: n, and of each statement all it has and whether it stands.

    statements holds what was said, as say's numbers; n is how many events there are.
    """
    calls = [told(), fit(), ring(), early(n), late(n - 1), tried(*[0] * n), shown(0), peel(), web()]
    calls += [bounds(a, b) for a in range(n) for b in range(n)]
    for k, w, a, b, lo, hi in statements:
        # Whether it stands, whose it is, and what it says when it stands by itself.
        calls += [take(k), give(k), drop(w), trust(w)]
    for k, w, a, b, lo, hi in statements:
        calls += [drop(one[1]) for one in statements]
        calls += [give(k), bounds(a, b)]
    # A key that is free, and one that is not.
    calls += [say(k, 999, 0, 1, 0, 0) for k in (*[one[0] for one in statements], 987654321)]
    return calls
