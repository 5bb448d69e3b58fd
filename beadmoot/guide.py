"""Guide: which outcomes a row in play can still have, and how to come to them."""

from beadmoot.outcomes import Outcomes, check_outcome, edge_entries, why_not
from beadmoot.parties import parties_by
from beadmoot.strands import check_bead


def still(row):
    """Return entries (parties, least_edges, greatest_edges) for the outcomes that can still come."""
    tally = row.tally()
    return [(parties + tally.ended(), least + tally.edge, greatest + tally.edge)
            for parties, least, greatest in edge_entries(Outcomes(row.rest()))]


def is_kept(row, bead, parties, edges):
    """Tell whether an outcome can still come once a bead is taken next."""
    later = row.twin()
    later.take(bead)
    return why_not(still(later), parties, edges) is None


def keepers(row, parties, edges):
    """Return the beads that can be taken next such that the outcome can still come."""
    return [bead for bead in row.standing[1:-1] if is_kept(row, bead, parties, edges)]


def guide(row, parties, edges):
    """Return a list of beads that continues the run to an order with this outcome."""
    check_outcome(still(row), parties, edges)
    tally = row.tally()
    standing = row.standing
    order = Outcomes(row.rest()).order(parties - tally.ended(), edges - tally.edge)
    return [standing[at] for at in order]


def group_with(groups, bead):
    """Return the group that contains a bead."""
    return [group for group in groups if bead in group][0]


def certain(row, a, b):
    """Tell whether two beads will be in one party for certain: "together", "apart" or "open"."""
    strand = row.grown()
    check_bead(a, strand.size)
    check_bead(b, strand.size)
    # Whatever is taken, the two ends meet in the end.
    groups = parties_by(strand, row.meetings() + [(0, strand.size - 1)])
    first = group_with(groups, a)
    if b in first:
        return "together"
    if strand.kinds[a] != strand.kinds[b]:
        return "apart"
    for group in (first, group_with(groups, b)):
        if not any([bead in row for bead in group]):
            return "apart"
    return "open"
