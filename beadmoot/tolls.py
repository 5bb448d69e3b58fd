"""Tolls: the numbers of edge and strife takings of the orders of a strand."""

from beadmoot.errors import OutOfReach
from beadmoot.spans import greatest_total, least_total
from beadmoot.tallies import Prices
from beadmoot.totals import order_with_total


def least_toll(strand):
    """Return the least toll of an order."""
    return least_total(strand, Prices())


def greatest_toll(strand):
    """Return the greatest toll of an order."""
    return greatest_total(strand, Prices())


def order_with_toll(strand, toll):
    """Return an order with this toll."""
    least = least_toll(strand)
    greatest = greatest_toll(strand)
    if not least <= toll <= greatest:
        raise OutOfReach(least, greatest)
    return order_with_total(strand, Prices(), toll)
