"""Totals: the prices that the orders of a strand can have."""

from beadmoot.errors import NoSuchTotal
from beadmoot.outcomes import Outcomes
from beadmoot.tallies import Tally


def price_of_outcome(strand, prices, row, edges):
    """Return the price of an order with the parties of a row of outcomes and this number of edge takings."""
    odd, strife = row[1:3]
    quiet = strand.size - 2 - odd - strife - edges
    return prices.total(Tally(quiet, odd, edges, strife))


def priced_outcomes(outcomes, prices):
    """Return a dict that has each price of an order as a key, and as its value an outcome with this price."""
    found = {}
    for row in outcomes.rows:
        for edges in range(row[3], row[4] + 1):
            found.setdefault(price_of_outcome(outcomes.strand, prices, row, edges), (row[0], edges))
    return found


def totals(strand, prices):
    """Return the ascending list of all different prices of an order."""
    return sorted(priced_outcomes(Outcomes(strand), prices))


def order_with_total(strand, prices, total):
    """Return an order with this price."""
    outcomes = Outcomes(strand)
    found = priced_outcomes(outcomes, prices)
    if total not in found:
        below = max([price for price in found if price < total], default=None)
        above = min([price for price in found if price > total], default=None)
        raise NoSuchTotal(below, above)
    parties, edges = found[total]
    return outcomes.order(parties, edges)
