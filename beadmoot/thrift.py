"""Thrift: what it costs to take a certain bead first or last."""

from beadmoot.changes import remove_bead
from beadmoot.rows import Row
from beadmoot.spans import floors, least_total, mark_between, price_by
from beadmoot.tallies import Prices
from beadmoot.tolls import least_toll


def first_total(strand, prices, bead):
    """Return the least price of the orders that take a bead first."""
    price = prices(mark_between(strand, bead - 1, bead, bead + 1))
    return price + least_total(remove_bead(strand, bead), prices)


def first_totals(strand, prices):
    """Return, for each inner bead, the least price of the orders that take it first."""
    return {bead: first_total(strand, prices, bead) for bead in range(1, strand.size - 1)}


def last_totals(strand, prices):
    """Return, for each inner bead, the least price of the orders that take it last."""
    table = floors(strand, prices)
    last = strand.size - 1
    return {bead: price_by(strand, prices, table, 0, bead, last) for bead in range(1, last)}


def losses(row):
    """Return, for each bead that can be taken, by how much its taking raises the least toll."""
    rest = row.rest()
    least = least_toll(rest)
    standing = row.standing
    return {standing[at]: toll - least for at, toll in first_totals(rest, Prices()).items()}


def thrift_order(strand):
    """Return the first order, compared entry by entry, that has the least toll."""
    row = Row(strand)
    while not row.is_done():
        row.take(min([bead for bead, loss in losses(row).items() if loss == 0]))
    return row.taken
