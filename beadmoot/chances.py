"""Chances: how many orders of a strand have an outcome, and the mean tally of all orders."""

from math import comb, gcd

from beadmoot.errors import TooManyBeads
from beadmoot.outcomes import parties_by_strife
from beadmoot.ranges import marks_added
from beadmoot.spans import all_spans, mark_between, narrow_first
from beadmoot.tallies import MARKS

MOST_BEADS = 12


def add_runs(found, left, right, strife, edges, mixes):
    """Add the numbers of runs that are mixed from runs of two spans and end with one more taking."""
    for (s, e), many in left.items():
        for (t, f), more in right.items():
            pair = (s + t + strife, e + f + edges)
            found[pair] = found.get(pair, 0) + many * more * mixes


def runs_of_span(strand, table, i, j):
    """Return the numbers of the runs that clear the span (i, j), by their strife and edge takings."""
    if j == i + 1:
        return {(0, 0): 1}
    found = {}
    for k in range(i + 1, j):
        strife, edges = marks_added(strand, i, k, j)
        # The takings on the two sides of bead k do not touch each other, so they are mixed at will.
        add_runs(found, table[(i, k)], table[(k, j)], strife, edges, comb(j - i - 2, k - i - 1))
    return found


def order_counts(strand):
    """Return the number of orders for each possible outcome (parties, edges)."""
    if strand.size > MOST_BEADS:
        raise TooManyBeads(strand.size)
    table = {}
    for i, j in narrow_first(strand):
        table[(i, j)] = runs_of_span(strand, table, i, j)
    whole = table[(0, strand.size - 1)]
    return {(parties_by_strife(strand, strife), edges): whole[(strife, edges)] for strife, edges in sorted(whole)}


def share(size, i, j):
    """Return the share of the orders in which a given bead between i and j is taken from between them."""
    width = j - i - 1
    if i == 0 and j == size - 1:
        return 1, width
    if i == 0 or j == size - 1:
        return 1, width * (width + 1)
    return 2, width * (width + 1) * (width + 2)


def fraction_sum(left, right):
    """Return the sum of two fractions in lowest terms."""
    top = left[0] * right[1] + right[0] * left[1]
    bottom = left[1] * right[1]
    scale = gcd(top, bottom)
    return top // scale, bottom // scale


def mean_of(strand, mark):
    """Return the mean number of takings with this mark over all orders."""
    total = (0, 1)
    for i, j in all_spans(strand):
        many = len([k for k in range(i + 1, j) if mark_between(strand, i, k, j) == mark])
        if many:
            top, bottom = share(strand.size, i, j)
            total = fraction_sum(total, (many * top, bottom))
    return total


def mean_tally(strand):
    """Return the mean number of takings of each mark over all orders, as fractions in lowest terms."""
    return tuple([mean_of(strand, mark) for mark in MARKS])
