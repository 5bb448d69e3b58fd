"""Nests: strands whose kinds are grouped into clans, and these into larger clans."""

from beadmoot.errors import NotNested
from beadmoot.orders import check_run, tally_of
from beadmoot.parties import book_of
from beadmoot.spans import mark_between, narrow_first
from beadmoot.strands import Strand
from beadmoot.tolls import greatest_toll


def torn_pair(finer, coarser):
    """Return the smallest pair of beads that are alike in one strand and unlike in the other one, or None."""
    for a in range(finer.size):
        for b in range(a + 1, finer.size):
            if finer.kinds[a] == finer.kinds[b] and coarser.kinds[a] != coarser.kinds[b]:
                return a, b
    return None


def tolls_between(strands, i, k, j):
    """Return at how many levels it costs a toll to take bead k from between the beads i and j."""
    return len([strand for strand in strands if mark_between(strand, i, k, j) in ("edge", "strife")])


def loudest_last(strands):
    """Return, for each span, the greatest toll of clearing it at all levels together, and the bead then taken last."""
    table = {}
    for i, j in narrow_first(strands[0]):
        ways = [(table[(i, k)][0] + table[(k, j)][0] + tolls_between(strands, i, k, j), k) for k in range(i + 1, j)]
        table[(i, j)] = max(ways, default=(0, None))
    return table


def run_by_last(table, i, j):
    """Return the run that clears the span (i, j) by the last beads of a table."""
    last = table[(i, j)][1]
    if last is None:
        return []
    return run_by_last(table, i, last) + run_by_last(table, last, j) + [last]


class Nest:
    """The levels of a nest, the finest one first; it never changes."""

    def __init__(self, levels):
        if len(levels) == 0:
            raise NotNested(0, None)
        self.strands = tuple([Strand(kinds) for kinds in levels])
        for level, strand in enumerate(self.strands):
            if strand.size != self.strands[0].size:
                raise NotNested(level, None)
        for level in range(1, len(self.strands)):
            pair = torn_pair(self.strands[level - 1], self.strands[level])
            if pair is not None:
                raise NotNested(level, pair)

    def tallies(self, order):
        """Return the tallies of an order at each level."""
        check_run(self.strands[0], order, whole=True)
        return [tally_of(strand, order) for strand in self.strands]

    def books(self, order):
        """Return the books of an order at each level."""
        return [book_of(strand, order) for strand in self.strands]

    def greatest_tolls(self):
        """Return the greatest toll of each level."""
        return [greatest_toll(strand) for strand in self.strands]

    def loudest(self):
        """Return an order that has the greatest toll at every level at once.

        As there is such an order, its tolls at all levels together are the greatest possible sum, and every
        order with that sum has the greatest toll at every level.
        """
        return run_by_last(loudest_last(self.strands), 0, self.strands[0].size - 1)
