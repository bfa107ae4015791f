"""Parts of which answers are made."""


def tell_truth(truth):
    """1 for what is so, 0 for what isn't: an answer never holds True or False."""
    if truth:
        return 1
    return 0


def tell_maybe(number):
    """Maybe a number, as two numbers; None is open."""
    if number is None:
        return [0, 0]
    return [1, number]


def tell_maybe_turned(number):
    """Maybe the number with the other sign, as two numbers; None is open."""
    if number is None:
        return [0, 0]
    return [1, -number]


def tell_way(way):
    """How many edges there are, and the key and the direction of each."""
    told = [len(way)]
    for edge in way:
        told.append(edge.key)
        told.append(edge.direction)
    return told
