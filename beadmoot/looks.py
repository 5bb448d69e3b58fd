"""Looks: what several lookers tell about a strand whose kinds they cannot see."""

from beadmoot.errors import BadSize, Clash
from beadmoot.logs import TOLD, beads_told, check_entries
from beadmoot.parties import parties_by
from beadmoot.strands import Strand, check_bead


def pairs_told(entries, size, is_alike):
    """Return the pairs of beads that entries tell alike, or those that they tell unlike."""
    found = []
    for (left, bead, right), (_, mark) in zip(beads_told(entries, size), entries):
        like_left, like_right, across = TOLD[mark]
        answers = (((left, bead), like_left), ((bead, right), like_right), ((left, right), across))
        found.extend([pair for pair, answer in answers if answer == is_alike])
    return found


def with_more(pairs, more):
    """Return a tuple of pairs in which each pair stands once."""
    found = list(pairs)
    for pair in more:
        if pair not in found:
            found.append(pair)
    return tuple(found)


def homes_by(size, pairs):
    """Return, for each bead, the index of its group among the groups that the pairs connect."""
    homes = [0] * size
    for index, group in enumerate(groups_by(size, pairs)):
        for bead in group:
            homes[bead] = index
    return homes


def groups_by(size, pairs):
    """Return the groups of beads that pairs told alike connect."""
    # In a strand with all beads alike, every pair connects.
    return parties_by(Strand([0] * size), pairs)


def beads_beside(pairs, bead):
    """Return the other beads of the pairs that contain a bead."""
    return [second if first == bead else first for first, second in pairs if bead in (first, second)]


def chain_between(pairs, a, b):
    """Return a shortest chain of pairs from bead a to bead b, which the pairs connect."""
    chains = {a: (a,)}
    newest = [a]
    while b not in chains:
        reached = []
        for bead in newest:
            for other in beads_beside(pairs, bead):
                if other not in chains:
                    chains[other] = chains[bead] + (other,)
                    reached.append(other)
        newest = reached
    return chains[b]


class Looks:
    """All that was told about a strand of so many beads."""

    def __init__(self, size):
        if not 2 <= size <= Strand.MOST:
            raise BadSize(size)
        self.size = size
        self._many = 0
        self._alike = ()
        self._unlike = ()

    def add(self, entries):
        """Add a look: the entries of the log of the first takings of an order."""
        check_entries(entries, self.size)
        alike = with_more(self._alike, pairs_told(entries, self.size, True))
        unlike = with_more(self._unlike, pairs_told(entries, self.size, False))
        homes = homes_by(self.size, alike)
        for a, b in unlike:
            if homes[a] == homes[b]:
                raise Clash(chain_between(alike, a, b))
        self._alike = alike
        self._unlike = unlike
        self._many += 1

    def many(self):
        """Return the number of looks that were added."""
        return self._many

    def tell(self, a, b):
        """Return "alike" or "unlike" if all that was told shows it for two beads, else "open"."""
        check_bead(a, self.size)
        check_bead(b, self.size)
        homes = homes_by(self.size, self._alike)
        if homes[a] == homes[b]:
            return "alike"
        for first, second in self._unlike:
            if (homes[first], homes[second]) in ((homes[a], homes[b]), (homes[b], homes[a])):
                return "unlike"
        return "open"

    def classes(self):
        """Return the groups of beads that are connected by pairs told alike."""
        return groups_by(self.size, self._alike)

    def fitting_strand(self):
        """Return a strand that fits all looks: the kind of each bead is the index of its group."""
        return Strand(homes_by(self.size, self._alike))
