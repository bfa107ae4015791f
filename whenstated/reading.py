"""The calls as they lie in one list of whole numbers, and the ranges of their numbers."""

# By place: the call's name, then what kind each of its numbers is. A "row" is a list with its length ahead of it.
FORMS = {
    0: ("begin", "events"),
    1: ("say", "key", "witness", "event", "event", "span", "span"),
    2: ("take", "key"),
    3: ("give", "key"),
    4: ("drop", "witness"),
    5: ("trust", "witness"),
    6: ("fit",),
    7: ("ring",),
    8: ("bounds", "event", "event"),
    9: ("early", "event"),
    10: ("late", "event"),
    11: ("tried", "row"),
    12: ("shown", "event"),
    13: ("why", "event", "event"),
    14: ("needless", "key"),
    15: ("if_of", "event", "event", "span", "span"),
    16: ("slack", "key"),
    17: ("pinned",),
    18: ("order", "event", "event"),
    19: ("doubt", "doubted"),
    20: ("who", "doubted"),
    21: ("peel",),
    22: ("web",),
    23: ("walk", "event", "row"),
    24: ("told",),
    25: ("alone", "witness"),
}

LEAST = {"events": 2, "key": 1, "witness": 1, "event": 0, "span": -1000000000, "doubted": 0}

# The greatest event is not here: it hangs on how many events there are.
GREATEST = {"events": 24, "key": 1000000000, "witness": 1000000000, "span": 1000000000, "doubted": 3}


class Call:
    """One call: its name, the numbers of its first row, what kind each of these is, and its second row."""

    def __init__(self, name):
        self.name = name
        self.kinds = []
        self.numbers = []
        self.row = []


class Reader:
    """Goes through a list of numbers from its begin to its end, without changing it."""

    def __init__(self, source):
        self.source = source
        self.at = 0

    def has_more(self):
        return self.at < len(self.source)

    def read_number(self):
        number = self.source[self.at]
        self.at = self.at + 1
        return number

    def read_row(self):
        length = self.read_number()
        first = self.at
        self.at = first + length
        return self.source[first:self.at]


def read_call(reader):
    form = FORMS[reader.read_number()]
    call = Call(form[0])
    for kind in form[1:]:
        if kind == "row":
            call.row = reader.read_row()
        else:
            call.kinds.append(kind)
            call.numbers.append(reader.read_number())
    return call


def read_calls(numbers):
    """The calls that lie one behind another in the list."""
    reader = Reader(numbers)
    calls = []
    while reader.has_more():
        calls.append(read_call(reader))
    return calls


def greatest_of(kind, n):
    if kind == "event":
        return n - 1
    return GREATEST[kind]


def is_in_range(kind, number, n):
    return LEAST[kind] <= number <= greatest_of(kind, n)


def has_numbers_in_range(call, n):
    """Whether each number of the call's first row is in its range, where there are n events."""
    for i in range(len(call.numbers)):
        if not is_in_range(call.kinds[i], call.numbers[i], n):
            return False
    return True
