"""Garlands: strands that are joined at their ends, and orders that come by a certain stand."""

from beadmoot.errors import BadJoin
from beadmoot.outcomes import Outcomes, check_outcome, edge_entries
from beadmoot.purses import check_stand
from beadmoot.ranges import widest_entries
from beadmoot.strands import Strand


def join_strands(strands):
    """Return the strand in which each strand goes on where the one before it ends, and the beads at the ends."""
    if len(strands) == 0:
        raise BadJoin(0)
    kinds = list(strands[0].kinds)
    beads = [0, len(kinds) - 1]
    for at in range(1, len(strands)):
        if strands[at].kinds[0] != kinds[-1]:
            raise BadJoin(at)
        kinds.extend(strands[at].kinds[1:])
        beads.append(len(kinds) - 1)
    return Strand(kinds), beads


def outcomes_between(strand, beads):
    """Return the outcomes of the strands between neighbouring beads of a stand, both beads included."""
    return [Outcomes(Strand(strand.kinds[i:j + 1])) for i, j in zip(beads, beads[1:])]


def ended_entries(outcomes):
    """Return entries (ended, least_edges, greatest_edges): every odd and every strife taking ends one party."""
    return [(odd + strife, least, greatest) for _, odd, strife, least, greatest in outcomes.rows]


def sums(entries, others):
    """Return the widest entries for the sums of two lists of entries."""
    return widest_entries([(number + more, low + lower, high + higher)
                           for number, low, high in entries for more, lower, higher in others])


def sums_so_far(parts):
    """Return the sums of no list of entries, of the first one, of the first two, and so on."""
    found = [((0, 0, 0),)]
    for part in parts:
        found.append(sums(found[-1], part))
    return found


def past(strand, beads):
    """Return entries (ended, least_edges, greatest_edges) for the runs that leave a stand."""
    check_stand(strand, beads)
    parts = [ended_entries(outcomes) for outcomes in outcomes_between(strand, beads)]
    return list(sums_so_far(parts)[-1])


def left_strand(strand, beads):
    """Return the strand that stands when only these beads are left."""
    return Strand([strand.kinds[bead] for bead in beads])


def ways(strand, beads):
    """Return entries (parties, least_edges, greatest_edges) for the orders that come by a stand."""
    return list(sums(past(strand, beads), edge_entries(Outcomes(left_strand(strand, beads)))))


def shares(before, own, number, edges):
    """Return the pairs (number, edges) of two lists of entries that together give this pair."""
    for first, low, high in before:
        for second, lower, higher in own:
            if first + second == number and low + lower <= edges <= high + higher:
                part = max(lower, edges - high)
                return (first, edges - part), (second, part)
    return None, None


def order_by_way(strand, beads, parties, edges):
    """Return an order that comes by a stand and has this outcome."""
    check_outcome(ways(strand, beads), parties, edges)
    between = outcomes_between(strand, beads)
    parts = [ended_entries(outcomes) for outcomes in between]
    found = sums_so_far(parts)
    rest = Outcomes(left_strand(strand, beads))
    (ended, spent), (left, more) = shares(found[-1], edge_entries(rest), parties, edges)
    order = [beads[at] for at in rest.order(left, more)]
    # From the last span to the first one, each run is put before the takings found so far.
    for at in range(len(between) - 1, -1, -1):
        (ended, spent), (own, part) = shares(found[at], parts[at], ended, spent)
        run = between[at].order(own + 1 + between[at].strand.ends_unlike, part)
        order = [beads[at] + bead for bead in run] + order
    return order
