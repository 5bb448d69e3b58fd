"""Books: groupings of all beads of a strand into parties that do not cross."""

from beadmoot.errors import BadBook, OtherStrand
from beadmoot.strands import check_bead


def parties_by_label(labels):
    """Return the groups of the beads with equal labels; bead k has the label labels[k]."""
    groups = {}
    for bead, label in enumerate(labels):
        groups.setdefault(label, []).append(bead)
    return [tuple(group) for group in groups.values()]


def lists_each_once(size, parties):
    """Tell whether no party is empty and each bead is listed exactly once."""
    listed = [bead for party in parties for bead in party]
    return sorted(listed) == list(range(size)) and all([len(party) > 0 for party in parties])


def unlike_pair(kinds, homes):
    """Return the smallest pair of unlike beads in one party, None if there is none."""
    for a, home in enumerate(homes):
        for b in range(a + 1, len(homes)):
            if homes[b] == home and kinds[a] != kinds[b]:
                return a, b
    return None


def parted_neighbours(kinds, homes):
    """Return the first two alike neighbours of the closed strand in two parties, or None."""
    size = len(kinds)
    for a in range(size):
        b = (a + 1) % size
        if kinds[a] == kinds[b] and homes[a] != homes[b]:
            return a, b
    return None


def crossing(homes):
    """Return the smallest tuple of four beads by which two parties cross, None if there is none."""
    size = len(homes)
    for p in range(size):
        for q in range(p + 1, size):
            if homes[p] == homes[q]:
                continue
            for r in range(q + 1, size):
                if homes[r] != homes[p]:
                    continue
                for s in range(r + 1, size):
                    if homes[s] == homes[q]:
                        return p, q, r, s
    return None


def check_rules(kinds, homes):
    """Raise BadBook for the first of the rules 1 to 3 that is broken; homes[k] names the party of bead k."""
    pair = unlike_pair(kinds, homes)
    if pair is not None:
        raise BadBook(1, pair)
    pair = parted_neighbours(kinds, homes)
    if pair is not None:
        raise BadBook(2, pair)
    four = crossing(homes)
    if four is not None:
        raise BadBook(3, four)


class Book:
    """A grouping of all beads of a strand into parties that never changes."""

    def __init__(self, strand, parties):
        if not lists_each_once(strand.size, parties):
            raise BadBook(0, ())
        self.strand = strand
        self.parties = tuple(sorted([tuple(sorted(party)) for party in parties]))
        homes = [0] * strand.size
        for index, party in enumerate(self.parties):
            for bead in party:
                homes[bead] = index
        check_rules(strand.kinds, homes)
        self._homes = tuple(homes)
        self.size = len(self.parties)
        self.lone = len([party for party in self.parties if len(party) == 1])

    def party_of(self, bead):
        """Return the index of the party of a bead."""
        check_bead(bead, self.strand.size)
        return self._homes[bead]

    def joined(self, a, b):
        """Return the book in which the parties of the two beads are one party."""
        kept = self.party_of(a)
        lost = self.party_of(b)
        labels = [kept if home == lost else home for home in self._homes]
        return Book(self.strand, parties_by_label(labels))

    def common(self, other):
        """Return the book of the non-empty common parts of the parties of two books."""
        if self.strand.kinds != other.strand.kinds:
            raise OtherStrand()
        return Book(self.strand, parties_by_label(list(zip(self._homes, other._homes))))

    def __iter__(self):
        return iter(self.parties)

    def __contains__(self, pair):
        a, b = pair
        if not (0 <= a < self.strand.size and 0 <= b < self.strand.size):
            return False
        return self._homes[a] == self._homes[b]


def is_coarser(book, other):
    """Tell whether every party of the other book of the same kinds lies within one party of the book."""
    if book.strand.kinds != other.strand.kinds:
        return False
    return all([(party[0], bead) in book for party in other.parties for bead in party])
