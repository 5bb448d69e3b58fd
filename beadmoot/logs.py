"""Logs: orders that are told without the kinds of the beads."""

from beadmoot.errors import BadLog
from beadmoot.orders import check_run
from beadmoot.rows import Row
from beadmoot.strands import Strand
from beadmoot.tallies import count_marks

LOG_MARKS = ("quiet", "odd", "left", "right", "strife")
# Three answers for each mark: is the bead like its left neighbour, is it like its right one, are these two alike?
TOLD = {
    "quiet": (True, True, True),
    "odd": (False, False, True),
    "left": (True, False, False),
    "right": (False, True, False),
    "strife": (False, False, False),
}


def check_entries(entries, size):
    """Raise BadLog if no strand with this many beads can have these entries for its first takings."""
    if len(entries) > size - 2:
        raise BadLog(None)
    for at, (place, mark) in enumerate(entries):
        if not 1 <= place <= size - at - 2 or mark not in LOG_MARKS:
            raise BadLog(at)


class Log:
    """The places and marks of the takings of an order; it never changes."""

    def __init__(self, entries, *, ends_alike):
        self.size = len(entries) + 2
        check_entries(entries, min(self.size, Strand.MOST))
        self.entries = tuple([(place, mark) for place, mark in entries])
        self.ends_alike = ends_alike

    def tally(self):
        """Return the tally of the entries."""
        return count_marks(["edge" if mark in ("left", "right") else mark for _, mark in self.entries])

    def __iter__(self):
        return iter(self.entries)


def entry_of(row, kinds, bead):
    """Return the entry of taking a bead of a row next."""
    left = row.neighbours(bead)[0]
    mark = row.mark(bead)
    if mark == "edge":
        mark = "left" if kinds[bead] == kinds[left] else "right"
    return row.standing.index(bead), mark


def log_of(strand, order):
    """Return the log of an order."""
    check_run(strand, order, whole=True)
    row = Row(strand)
    entries = []
    for bead in order:
        entries.append(entry_of(row, strand.kinds, bead))
        row.take(bead)
    return Log(entries, ends_alike=strand.ends_unlike == 0)


def beads_told(entries, size):
    """Return, for each entry, the taken bead between its two neighbours: a triple (left, bead, right)."""
    standing = list(range(size))
    found = []
    for place, _ in entries:
        found.append((standing[place - 1], standing[place], standing[place + 1]))
        del standing[place]
    return found


def order_of(log):
    """Return the order that a log tells."""
    return [bead for _, bead, _ in beads_told(log.entries, log.size)]


def fits(log, strand):
    """Tell whether the order of a log has this very log in a strand."""
    if strand.size != log.size:
        return False
    other = log_of(strand, order_of(log))
    return other.entries == log.entries and other.ends_alike == log.ends_alike
