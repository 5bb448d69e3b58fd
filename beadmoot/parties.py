"""Parties: the groups of alike beads that the meetings of a play connect."""

from beadmoot.books import Book, parties_by_label
from beadmoot.errors import BadRun
from beadmoot.orders import check_run, play
from beadmoot.rings import ring_play
from beadmoot.strands import check_bead


def parties_by(strand, pairs):
    """Return the groups of beads that pairs of alike beads connect."""
    for pair in pairs:
        for bead in pair:
            check_bead(bead, strand.size)
    labels = list(range(strand.size))
    for a, b in pairs:
        if strand.kinds[a] == strand.kinds[b]:
            kept = labels[a]
            lost = labels[b]
            labels = [kept if label == lost else label for label in labels]
    return parties_by_label(labels)


def parties_so_far(row):
    """Return the groups that the meetings of a row connect."""
    return parties_by(row.grown(), row.meetings())


def ended_parties(row):
    """Return those groups of a row of which no bead stands."""
    return [party for party in parties_so_far(row) if not any([bead in row for bead in party])]


def book_of(strand, order):
    """Return the book of an order."""
    check_run(strand, order, whole=True)
    return Book(strand, parties_so_far(play(strand, order)))


def ring_book(strand, order):
    """Return the book of an order of the ring."""
    ring = ring_play(strand, order)
    if not ring.is_done():
        raise BadRun(len(order))
    return Book(strand, parties_by(strand, ring.meetings()))
