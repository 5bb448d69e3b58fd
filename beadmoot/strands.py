"""Strands: rows of beads, each bead with a kind."""

from beadmoot.errors import BadKind, BadStrand, NoSuchBead


def check_bead(bead, size):
    """Raise NoSuchBead if a strand with this many beads has no such bead."""
    if not 0 <= bead < size:
        raise NoSuchBead(bead)


def letter_kind(letter):
    """Return the place of a lower-case letter in the alphabet, -1 for any other character."""
    if "a" <= letter <= "z":
        return ord(letter) - ord("a")
    return -1


def unlike_places(kinds):
    """Return the places of the closed strand whose two beads are unlike, in ascending order."""
    size = len(kinds)
    return [place for place in range(size) if kinds[place] != kinds[(place + 1) % size]]


def check_kind(kind):
    """Raise BadKind if a bead cannot have this kind."""
    if not 0 <= kind <= Strand.TOP_KIND:
        raise BadKind(kind)


class Strand:
    """A row of 2 to 24 beads that never changes."""

    MOST = 24
    TOP_KIND = 999

    def __init__(self, kinds):
        if not 2 <= len(kinds) <= Strand.MOST:
            raise BadStrand(None)
        for at, kind in enumerate(kinds):
            if not 0 <= kind <= Strand.TOP_KIND:
                raise BadStrand(at)
        self.kinds = tuple(kinds)
        self.size = len(self.kinds)
        self.unlike_pairs = len(unlike_places(self.kinds))
        self.ends_unlike = 1 if self.kinds[0] != self.kinds[-1] else 0
        self.variety = len(set(self.kinds))

    @classmethod
    def from_letters(cls, text):
        """Return the strand whose kinds are the places of the letters in the alphabet."""
        return cls([letter_kind(letter) for letter in text])

    def stretches(self):
        """Return the stretches of the closed strand, the one with bead 0 first."""
        breaks = unlike_places(self.kinds)
        if not breaks:
            return [tuple(range(self.size))]
        found = []
        # Counted below 0, the last break lies before bead 0, where the first stretch begins.
        before = breaks[-1] - self.size
        for place in breaks:
            found.append(tuple([bead % self.size for bead in range(before + 1, place + 1)]))
            before = place
        return found

    def mirrored(self):
        """Return the strand with the kinds in the opposite order."""
        return Strand(self.kinds[::-1])

    def turned(self, bead):
        """Return the strand that begins with the bead and goes once round."""
        check_bead(bead, self.size)
        return Strand(self.kinds[bead:] + self.kinds[:bead])

    def __iter__(self):
        return iter(self.kinds)
