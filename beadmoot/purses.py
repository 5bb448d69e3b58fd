"""Purses: how few beads can be left for a price."""

from beadmoot.errors import BadLeft, NotEnough
from beadmoot.spans import cheapest_run, floors


def check_stand(strand, beads):
    """Raise BadLeft if the list is not a stand of the strand."""
    for at, bead in enumerate(beads):
        is_right = bead == 0 if at == 0 else beads[at - 1] < bead < strand.size
        if not is_right:
            raise BadLeft(at)
    if len(beads) == 0 or beads[-1] != strand.size - 1:
        raise BadLeft(len(beads))


def price_to_leave(strand, prices, beads):
    """Return the least price of a run that leaves a stand."""
    check_stand(strand, beads)
    table = floors(strand, prices)
    return sum([table[(i, j)] for i, j in zip(beads, beads[1:])])


def run_to_leave(strand, prices, beads):
    """Return a run that leaves a stand for the least price."""
    check_stand(strand, beads)
    table = floors(strand, prices)
    run = []
    for i, j in zip(beads, beads[1:]):
        run.extend(cheapest_run(strand, prices, table, i, j))
    return run


def cheapest_stands(strand, prices):
    """Return, for each pair (many, bead), how to leave that many beads from bead 0 up to this one.

    The value is the pair of the least price and the bead that then is left before the last one.
    """
    table = floors(strand, prices)
    found = {(1, 0): (0, None)}
    for many in range(2, strand.size + 1):
        for bead in range(many - 1, strand.size):
            found[(many, bead)] = min([(found[(many - 1, other)][0] + table[(other, bead)], other)
                                       for other in range(bead) if (many - 1, other) in found])
    return found


def leave_curve(strand, prices):
    """Return the least prices of the runs that leave exactly 2, 3, up to all beads."""
    found = cheapest_stands(strand, prices)
    return [found[(many, strand.size - 1)][0] for many in range(2, strand.size + 1)]


def run_leaving(strand, prices, many):
    """Return a run that leaves this many beads for the least price."""
    found = cheapest_stands(strand, prices)
    beads = []
    bead = strand.size - 1
    for left in range(many, 0, -1):
        beads.append(bead)
        bead = found[(left, bead)][1]
    return run_to_leave(strand, prices, beads[::-1])


def fewest_left(strand, prices, coins):
    """Return the least number of beads that a run for at most these coins leaves, and such a run."""
    many, runs = share_purse([strand], prices, coins)
    return many, runs[0]


def with_curve(found, curve):
    """Return the least prices by the numbers of beads left, with one more strand that has this curve."""
    wider = {}
    for left, price in found.items():
        for at, more in enumerate(curve):
            beads = left + at + 2
            wider[beads] = min(price + more, wider.get(beads, price + more))
    return wider


def share_of_last(found, curve, beads, price):
    """Return how many beads the last strand keeps if all strands together keep these for this price."""
    for at, more in enumerate(curve):
        left = beads - at - 2
        if left in found and found[left] + more == price:
            return at + 2
    return 0


def share_purse(strands, prices, coins):
    """Return the least number of beads that runs for at most these coins leave in all strands, and the runs."""
    curves = [leave_curve(strand, prices) for strand in strands]
    found = [{0: 0}]
    for curve in curves:
        found.append(with_curve(found[-1], curve))
    payable = [beads for beads, price in found[-1].items() if price <= coins]
    if not payable:
        raise NotEnough(min(found[-1].values()))
    least = min(payable)
    left = least
    runs = []
    for at in range(len(curves) - 1, -1, -1):
        many = share_of_last(found[at], curves[at], left, found[at + 1][left])
        runs.append(run_leaving(strands[at], prices, many))
        left -= many
    return least, runs[::-1]
