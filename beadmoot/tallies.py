"""The marks of takings, their tallies and their prices."""

from beadmoot.errors import BadMark, BadPrice

MARKS = ("quiet", "odd", "edge", "strife")
TOP_PRICE = 10 ** 9


def mark_of(left, bead, right):
    """Return the mark of taking a bead of one kind from between two other kinds."""
    if left == right:
        return "quiet" if bead == left else "odd"
    if bead == left or bead == right:
        return "edge"
    return "strife"


class Tally:
    """Numbers of takings by their marks."""

    def __init__(self, quiet=0, odd=0, edge=0, strife=0):
        self.quiet = quiet
        self.odd = odd
        self.edge = edge
        self.strife = strife
        self.counts = (quiet, odd, edge, strife)

    def takings(self):
        """Return the number of all takings."""
        return self.quiet + self.odd + self.edge + self.strife

    def toll(self):
        """Return the number of edge and strife takings."""
        return self.edge + self.strife

    def ended(self):
        """Return the number of parties that these takings end."""
        return self.odd + self.strife

    def lost(self):
        """Return the number of unlike pairs that these takings cost the row."""
        return 2 * self.odd + self.strife

    def __add__(self, other):
        return Tally(self.quiet + other.quiet, self.odd + other.odd,
                     self.edge + other.edge, self.strife + other.strife)

    def __iter__(self):
        return iter(self.counts)


def tally_sum(*tallies):
    """Return the sum of any number of tallies."""
    total = Tally()
    for tally in tallies:
        total = total + tally
    return total


def count_marks(marks):
    """Return the tally of a list or tuple of marks."""
    return Tally(marks.count("quiet"), marks.count("odd"), marks.count("edge"), marks.count("strife"))


class Prices:
    """One price for each mark; the default prices are the tolls."""

    def __init__(self, *, quiet=0, odd=0, edge=1, strife=1):
        for word, price in zip(MARKS, (quiet, odd, edge, strife)):
            if not -TOP_PRICE <= price <= TOP_PRICE:
                raise BadPrice(word)
        self.quiet = quiet
        self.odd = odd
        self.edge = edge
        self.strife = strife

    def __call__(self, mark):
        if mark == "quiet":
            return self.quiet
        if mark == "odd":
            return self.odd
        if mark == "edge":
            return self.edge
        if mark == "strife":
            return self.strife
        raise BadMark(mark)

    def total(self, tally):
        """Return the price of all takings of a tally together."""
        return (self.quiet * tally.quiet + self.odd * tally.odd
                + self.edge * tally.edge + self.strife * tally.strife)

    def negated(self):
        """Return the prices with the opposite signs."""
        return Prices(quiet=-self.quiet, odd=-self.odd, edge=-self.edge, strife=-self.strife)
