"""Outcomes: which numbers of parties and of edge takings the orders of a strand have."""

from beadmoot.errors import CannotBe
from beadmoot.parties import book_of
from beadmoot.ranges import ranges, run_within


def parties_by_strife(strand, strife):
    """Return the number of parties of every order with this number of strife takings."""
    return (strife + strand.unlike_pairs + 2) // 2


def row_of_entry(strand, entry):
    """Return the row of an entry of the ranges of the whole strand."""
    strife, least, greatest = entry
    parties = parties_by_strife(strand, strife)
    odd = strand.unlike_pairs - parties + 1 - strand.ends_unlike
    return parties, odd, strife, least, greatest


def why_not_parties(entries, parties):
    """Return why a number of parties is not in the entries, None if it is; their numbers are consecutive."""
    least = entries[0][0]
    greatest = entries[-1][0]
    if parties < least:
        return "few parties", least
    if parties > greatest:
        return "many parties", greatest
    return None


def why_not(entries, parties, edges):
    """Return why entries (parties, least_edges, greatest_edges) do not allow an outcome, None if they do."""
    why = why_not_parties(entries, parties)
    if why is not None:
        return why
    _, least, greatest = entries[parties - entries[0][0]]
    if edges < least:
        return "few edges", least
    if edges > greatest:
        return "many edges", greatest
    return None


def check_outcome(entries, parties, edges):
    """Raise CannotBe if entries (parties, least_edges, greatest_edges) do not allow an outcome."""
    why = why_not(entries, parties, edges)
    if why is not None:
        word, bound = why
        raise CannotBe(word, bound)


def edge_entries(outcomes):
    """Return the rows of outcomes as entries (parties, least_edges, greatest_edges)."""
    return [(row[0], row[3], row[4]) for row in outcomes.rows]


class Outcomes:
    """The outcomes that the orders of a strand can have; it never changes."""

    def __init__(self, strand):
        self.strand = strand
        self._ranges = ranges(strand)
        self.rows = tuple([row_of_entry(strand, entry) for entry in self._ranges[(0, strand.size - 1)]])

    def reason(self, parties, edges):
        """Return why an outcome is not possible, None if it is possible."""
        return why_not(edge_entries(self), parties, edges)

    def order(self, parties, edges):
        """Return an order with this outcome."""
        check_outcome(edge_entries(self), parties, edges)
        strife = self._row(parties)[2]
        return run_within(self.strand, self._ranges, 0, self.strand.size - 1, strife, edges)

    def book(self, parties):
        """Return a good book with this number of parties and with as many lone parties as possible."""
        why = why_not_parties(self.rows, parties)
        if why is not None:
            word, bound = why
            raise CannotBe(word, bound)
        # The more lone parties a book has, the fewer edge takings it can be played with.
        return book_of(self.strand, self.order(parties, self._row(parties)[3]))

    def __iter__(self):
        return iter(self.rows)

    def __contains__(self, outcome):
        parties, edges = outcome
        return self.reason(parties, edges) is None

    def _row(self, parties):
        """Return the row of a possible number of parties; the numbers in the rows are consecutive."""
        return self.rows[parties - self.rows[0][0]]


def ring_ends(strand, parties):
    """Return the values of last_unlike that the ring can have together with this number of parties."""
    if strand.variety == 1:
        return [0]
    return [0, 1] if parties < strand.size else [1]


def ring_rows(strand):
    """Return the rows of the ring, one for each number of parties and value of last_unlike."""
    found = []
    for parties, odd, strife, least, greatest in Outcomes(strand).rows:
        for ends_unlike in ring_ends(strand, parties):
            shift = ends_unlike - strand.ends_unlike
            found.append((parties, ends_unlike, odd - shift, strife, least + shift, greatest + shift))
    return found
