"""What is kept from call to call: how many events there are, and the statements."""


class Statement:
    """Says that the time of b less the time of a is from lo to hi; counts only while it stands."""

    def __init__(self, key, witness, a, b, lo, hi):
        self.key = key
        self.witness = witness
        self.a = a
        self.b = b
        self.lo = lo
        self.hi = hi
        self.stands = True


class Kept:
    """The n events and all statements by their keys, those taken back too."""

    def __init__(self):
        self.n = 2
        self.by_key = {}

    def list_all(self):
        """All statements by rising keys."""
        return [self.by_key[key] for key in sorted(self.by_key)]

    def list_standing(self):
        """The statements that stand, by rising keys."""
        return [statement for statement in self.list_all() if statement.stands]

    def list_of_witness(self, witness):
        """The statements of the witness by rising keys, whether they stand or not."""
        return [statement for statement in self.list_all() if statement.witness == witness]
