"""Rings: closed strands in play, where any bead may be taken."""

from beadmoot.errors import BadRun, GoneBead, NotDone, NothingToUndo, TwoLeft
from beadmoot.strands import check_bead
from beadmoot.tallies import count_marks, mark_of


def first_meetings(size):
    """Return the neighbours of a closed strand with this many beads, each pair once."""
    pairs = [(bead, bead + 1) for bead in range(size - 1)]
    if size >= 3:
        pairs.append((0, size - 1))
    return pairs


class Ring:
    """A closed strand in play; its state is kept in tuples, so that a past state can be held as it is."""

    def __init__(self, strand):
        self._kinds = strand.kinds
        self._standing = tuple(range(strand.size))
        self._taken = ()
        self._marks = ()
        self._met = tuple(first_meetings(strand.size))
        self._past = []

    @property
    def standing(self):
        """The standing beads in ascending order."""
        return list(self._standing)

    @property
    def taken(self):
        """The taken beads in the order of their taking."""
        return list(self._taken)

    def take(self, bead):
        """Take a bead out and return the mark of the taking."""
        left, right = self.neighbours(bead)
        if self.is_done():
            raise TwoLeft()
        mark = mark_of(self._kinds[left], self._kinds[bead], self._kinds[right])
        self._past.append((self._standing, self._taken, self._marks, self._met))
        # With three beads left, the two neighbours stand side by side on the other way round.
        if len(self._standing) >= 4:
            self._met = self._met + ((min(left, right), max(left, right)),)
        self._marks = self._marks + (mark,)
        self._taken = self._taken + (bead,)
        self._standing = tuple([other for other in self._standing if other != bead])
        return mark

    def neighbours(self, bead):
        """Return the left and the right neighbour round the ring."""
        check_bead(bead, len(self._kinds))
        if bead not in self._standing:
            raise GoneBead(bead)
        at = self._standing.index(bead)
        many = len(self._standing)
        return self._standing[(at - 1) % many], self._standing[(at + 1) % many]

    def undo(self):
        """Take back the last taking and return its bead."""
        if not self._past:
            raise NothingToUndo()
        bead = self._taken[-1]
        self._standing, self._taken, self._marks, self._met = self._past.pop()
        return bead

    def is_done(self):
        """Tell whether only two beads stand."""
        return len(self._standing) == 2

    def last_unlike(self):
        """Return 1 if the two last beads are unlike, else 0."""
        if not self.is_done():
            raise NotDone()
        first, second = self._standing
        return 1 if self._kinds[first] != self._kinds[second] else 0

    def tally(self):
        """Return the tally of the takings so far."""
        return count_marks(self._marks)

    def meetings(self):
        """Return all pairs of beads that have met so far, in the order in which they met."""
        return list(self._met)

    def __contains__(self, bead):
        return bead in self._standing


def ring_play(strand, run):
    """Return a new ring in which the beads of the list were taken in order."""
    ring = Ring(strand)
    for at, bead in enumerate(run):
        if bead not in ring or ring.is_done():
            raise BadRun(at)
        ring.take(bead)
    return ring
