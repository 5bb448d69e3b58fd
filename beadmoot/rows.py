"""Rows: strands in play, whose inner beads are taken out."""

from beadmoot.errors import EndBead, GoneBead, NotApart, NothingToUndo, RowFull
from beadmoot.strands import Strand, check_bead, check_kind
from beadmoot.tallies import count_marks, mark_of


class Row:
    """A strand in play; its state is kept in tuples, so that a past state can be held as it is."""

    def __init__(self, strand):
        self._kinds = strand.kinds
        self._standing = tuple(range(strand.size))
        self._taken = ()
        self._marks = ()
        self._met = tuple([(bead, bead + 1) for bead in range(strand.size - 1)])
        self._deeds = []

    @property
    def standing(self):
        """The standing beads in ascending order."""
        return list(self._standing)

    @property
    def taken(self):
        """The taken beads in the order of their taking."""
        return list(self._taken)

    def take(self, bead):
        """Take a bead out and return the mark of the taking."""
        mark = self.mark(bead)
        self._keep("take", bead)
        self._remove(bead)
        return mark

    def mark(self, bead):
        """Return the mark that the taking of the bead would have."""
        self._check_inner(bead)
        left, right = self.neighbours(bead)
        return mark_of(self._kinds[left], self._kinds[bead], self._kinds[right])

    def neighbours(self, bead):
        """Return the left and the right neighbour, None for a missing one."""
        self._check_stands(bead)
        at = self._standing.index(bead)
        left = self._standing[at - 1] if at > 0 else None
        right = self._standing[at + 1] if at + 1 < len(self._standing) else None
        return left, right

    def is_done(self):
        """Tell whether only two beads stand."""
        return len(self._standing) == 2

    def take_round(self, beads):
        """Take several beads in one round and return the list of their marks."""
        for at, bead in enumerate(beads):
            if bead in beads[:at]:
                raise GoneBead(bead)
            self._check_inner(bead)
        self._check_apart(beads)
        marks = [self.mark(bead) for bead in beads]
        self._keep("round", tuple(beads))
        for bead in beads:
            self._remove(bead)
        return marks

    def grow(self, kind):
        """Add a bead behind the last one and return its number."""
        check_kind(kind)
        if len(self._kinds) == Strand.MOST:
            raise RowFull()
        bead = len(self._kinds)
        self._keep("grow", bead)
        self._kinds = self._kinds + (kind,)
        self._standing = self._standing + (bead,)
        self._met = self._met + ((bead - 1, bead),)
        return bead

    def grown(self):
        """Return the strand with all beads that there ever were, taken or not."""
        return Strand(self._kinds)

    def rest(self):
        """Return the strand of the kinds of the standing beads."""
        return Strand([self._kinds[bead] for bead in self._standing])

    def undo(self):
        """Take back the last deed and return it."""
        if not self._deeds:
            raise NothingToUndo()
        word, worth, state = self._deeds.pop()
        self._restore(state)
        if word == "round":
            return word, list(worth)
        return word, worth

    def twin(self):
        """Return a new row in the same state, with the same deeds to take back."""
        other = Row(self.grown())
        other._restore(self._state())
        other._deeds = list(self._deeds)
        return other

    def meetings(self):
        """Return all pairs of beads that have met so far, in the order in which they met."""
        return list(self._met)

    def tally(self):
        """Return the tally of the takings so far."""
        return count_marks(self._marks)

    def __iter__(self):
        return iter(self._standing)

    def __contains__(self, bead):
        return bead in self._standing

    def _check_stands(self, bead):
        check_bead(bead, len(self._kinds))
        if bead not in self._standing:
            raise GoneBead(bead)

    def _check_inner(self, bead):
        self._check_stands(bead)
        if bead == 0 or bead == len(self._kinds) - 1:
            raise EndBead(bead)

    def _check_apart(self, beads):
        for left, right in zip(self._standing, self._standing[1:]):
            if left in beads and right in beads:
                raise NotApart(left, right)

    def _remove(self, bead):
        """Take a bead out whose taking was checked and kept as a deed before."""
        left, right = self.neighbours(bead)
        self._marks = self._marks + (self.mark(bead),)
        self._met = self._met + ((left, right),)
        self._taken = self._taken + (bead,)
        self._standing = tuple([other for other in self._standing if other != bead])

    def _state(self):
        return self._kinds, self._standing, self._taken, self._marks, self._met

    def _restore(self, state):
        self._kinds, self._standing, self._taken, self._marks, self._met = state

    def _keep(self, word, worth):
        """Remember a deed together with the state before it."""
        self._deeds.append((word, worth, self._state()))
