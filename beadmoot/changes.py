"""Changes: strands with a bead more, a bead fewer or another kind, and strands without toll."""

from beadmoot.errors import BadPlace, EndBead, NotFree
from beadmoot.spans import least_order
from beadmoot.strands import Strand, check_bead, check_kind
from beadmoot.tallies import Prices
from beadmoot.tolls import least_toll


def is_free(strand):
    """Tell whether the least toll of a strand is 0."""
    return least_toll(strand) == 0


def free_order(strand):
    """Return an order with toll 0."""
    least = least_toll(strand)
    if least > 0:
        raise NotFree(least)
    return least_order(strand, Prices())


def beads_to_change(strand, kind):
    """Return the beads that must get this kind so that the strand is free by it."""
    beads = []
    # How many inner beads of other kinds have followed one another up to here.
    others = 0
    for bead, own in enumerate(strand.kinds):
        if own == kind:
            others = 0
        elif bead == 0 or bead == strand.size - 1:
            beads.append(bead)
        else:
            others += 1
            if others % 2 == 0:
                beads.append(bead)
    return beads


def least_changes(strand):
    """Return a kind, and the fewest beads that make the strand free if they get this kind."""
    if strand.size == 2:
        return strand.kinds[0], []
    kind = min([(len(beads_to_change(strand, own)), own) for own in strand.kinds])[1]
    return kind, beads_to_change(strand, kind)


def insert_bead(strand, place, kind):
    """Return the strand with a new inner bead that gets the number `place`."""
    if not 1 <= place <= strand.size - 1:
        raise BadPlace(place)
    check_kind(kind)
    return Strand(strand.kinds[:place] + (kind,) + strand.kinds[place:])


def remove_bead(strand, bead):
    """Return the strand without an inner bead."""
    check_bead(bead, strand.size)
    if bead == 0 or bead == strand.size - 1:
        raise EndBead(bead)
    return Strand(strand.kinds[:bead] + strand.kinds[bead + 1:])


def change_kind(strand, bead, kind):
    """Return the strand in which a bead has another kind."""
    check_bead(bead, strand.size)
    check_kind(kind)
    return Strand(strand.kinds[:bead] + (kind,) + strand.kinds[bead + 1:])
