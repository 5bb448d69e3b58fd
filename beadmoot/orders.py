"""Runs and orders: lists of the beads that are taken in turn."""

from beadmoot.errors import BadRun
from beadmoot.rows import Row


def check_run(strand, run, *, whole=False):
    """Raise BadRun if the list is not a run of the strand, or not an order although it must be one."""
    for at, bead in enumerate(run):
        if not 0 < bead < strand.size - 1 or bead in run[:at]:
            raise BadRun(at)
    if whole and len(run) < strand.size - 2:
        raise BadRun(len(run))


def play(strand, run):
    """Return a new row in which the run was taken."""
    check_run(strand, run)
    row = Row(strand)
    for bead in run:
        row.take(bead)
    return row


def marks_of(strand, run):
    """Return the list of the marks of a run."""
    check_run(strand, run)
    row = Row(strand)
    return [row.take(bead) for bead in run]


def tally_of(strand, run):
    """Return the tally of a run."""
    return play(strand, run).tally()


def total_of(strand, run, prices):
    """Return the price of a run."""
    return prices.total(tally_of(strand, run))


def steps(strand, run):
    """Yield a triple (bead, mark, (left, right)) for each taking of a run in turn."""
    check_run(strand, run)
    row = Row(strand)
    for bead in list(run):
        pair = row.neighbours(bead)
        mark = row.take(bead)
        yield bead, mark, pair
