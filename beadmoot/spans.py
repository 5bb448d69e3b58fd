"""Spans: pairs of beads, and the prices for which all beads between them can be taken."""

from beadmoot.errors import BadFloors
from beadmoot.tallies import mark_of


def all_spans(strand):
    """Return all spans of a strand in ascending order."""
    return [(i, j) for i in range(strand.size) for j in range(i + 1, strand.size)]


def narrow_first(strand):
    """Return all spans of a strand such that every span comes behind the spans within it."""
    return [(i, i + width) for width in range(1, strand.size) for i in range(strand.size - width)]


def mark_between(strand, i, k, j):
    """Return the mark of taking bead k from between the beads i and j."""
    return mark_of(strand.kinds[i], strand.kinds[k], strand.kinds[j])


def price_by(strand, prices, table, i, k, j):
    """Return the price of clearing the span (i, j) with bead k last, the narrower spans as in the table."""
    return table[(i, k)] + table[(k, j)] + prices(mark_between(strand, i, k, j))


def floors(strand, prices):
    """Return the least price of clearing each span."""
    table = {}
    for i, j in narrow_first(strand):
        ways = [price_by(strand, prices, table, i, k, j) for k in range(i + 1, j)]
        table[(i, j)] = min(ways, default=0)
    return {span: table[span] for span in all_spans(strand)}


def check_span(strand, prices, table, i, j):
    """Raise BadFloors if the table has too great a value for a span."""
    if j == i + 1 and table[(i, j)] > 0:
        raise BadFloors((i, j))
    for k in range(i + 1, j):
        if table[(i, j)] > price_by(strand, prices, table, i, k, j):
            raise BadFloors((i, k, j))


def check_floors(strand, prices, table):
    """Return the bound that a table of somebody else shows for every order, or raise BadFloors."""
    for span in all_spans(strand):
        if span not in table:
            raise BadFloors(span)
    for i, j in all_spans(strand):
        check_span(strand, prices, table, i, j)
    return table[(0, strand.size - 1)]


def least_total(strand, prices):
    """Return the least price of an order."""
    return floors(strand, prices)[(0, strand.size - 1)]


def greatest_total(strand, prices):
    """Return the greatest price of an order."""
    return -least_total(strand, prices.negated())


def least_order(strand, prices):
    """Return an order with the least price."""
    return cheapest_run(strand, prices, floors(strand, prices), 0, strand.size - 1)


def cheapest_run(strand, prices, table, i, j):
    """Return a run that clears the span (i, j) for its floor."""
    for k in range(i + 1, j):
        if price_by(strand, prices, table, i, k, j) == table[(i, j)]:
            left = cheapest_run(strand, prices, table, i, k)
            right = cheapest_run(strand, prices, table, k, j)
            return left + right + [k]
    return []
