"""Strands of two kinds: every order has the same number of parties."""

from beadmoot.census import count_books
from beadmoot.errors import NotTwoKinds
from beadmoot.outcomes import Outcomes


def check_two_kinds(strand):
    """Raise NotTwoKinds if a strand does not have two kinds."""
    if strand.variety != 2:
        raise NotTwoKinds(strand.variety)


def two_kind_numbers(strand):
    """Return the tuple (parties, lone, least_edges, greatest_edges, books) of a strand of two kinds."""
    check_two_kinds(strand)
    row = Outcomes(strand).rows[0]
    parties = row[0]
    least, greatest = row[3:]
    lone = parties - 1 + strand.ends_unlike - least
    return parties, lone, least, greatest, count_books(strand)


def from_a_break(stretches):
    """Return the stretches turned round so that no row of single beads goes on from the end to the beginning."""
    for at, stretch in enumerate(stretches):
        if len(stretch) > 1:
            return stretches[at:] + stretches[:at]
    # All are single beads, an even number of them, so that the last one is left out anyway.
    return stretches


def lone_set(strand):
    """Return as many beads as possible that are stretches by themselves, no two of them neighbours."""
    check_two_kinds(strand)
    beads = []
    is_free = True
    for stretch in from_a_break(strand.stretches()):
        is_taken = is_free and len(stretch) == 1
        if is_taken:
            beads.append(stretch[0])
        is_free = not is_taken
    return sorted(beads)
