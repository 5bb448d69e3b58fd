"""Words: the marks of an order without the places."""

from beadmoot.errors import BadMark, NoFit, NoSuchTally
from beadmoot.fitting import freest
from beadmoot.logs import TOLD, Log, order_of
from beadmoot.strands import Strand
from beadmoot.tallies import MARKS

# How many alike and how many unlike pairs there are more, once a mark is read back.
MORE_PAIRS = {"quiet": (1, 0), "odd": (-1, 2), "edge": (1, 0), "strife": (0, 1)}


def needs_alike(mark):
    """Tell whether the two neighbours are alike in a taking with this mark."""
    return mark in ("quiet", "odd")


def first_pairs(ends_alike):
    """Return the numbers of alike and of unlike pairs in the row of the two ends."""
    return (1, 0) if ends_alike else (0, 1)


def pairs_before(pairs, mark):
    """Return the numbers of alike and of unlike pairs before a taking, None if it cannot lead to these numbers."""
    alike, unlike = pairs
    needed = alike if needs_alike(mark) else unlike
    if needed == 0:
        return None
    more_alike, more_unlike = MORE_PAIRS[mark]
    return alike + more_alike, unlike + more_unlike


def word_misfit(word, *, ends_alike):
    """Return the index of the mark at which reading the word back stops, None if it does not stop."""
    for mark in word:
        if mark not in MARKS:
            raise BadMark(mark)
    pairs = first_pairs(ends_alike)
    for at in range(len(word) - 1, -1, -1):
        pairs = pairs_before(pairs, word[at])
        if pairs is None:
            return at
    return None


def log_from_word(word, *, ends_alike):
    """Return a log with no misfit that has these marks."""
    at = word_misfit(word, ends_alike=ends_alike)
    if at is not None:
        raise NoFit(at)
    # The row of pairs, each True for alike; each mark is read back at the first pair that it can have.
    pairs = [ends_alike]
    entries = []
    for mark in word[::-1]:
        at = pairs.index(needs_alike(mark))
        told = "left" if mark == "edge" else mark
        like_left, like_right, _ = TOLD[told]
        pairs[at:at + 1] = [like_left, like_right]
        entries.append((at + 1, told))
    return Log(entries[::-1], ends_alike=ends_alike)


def count_words(takings, *, ends_alike):
    """Return the number of words with this many marks that are possible."""
    found = {first_pairs(ends_alike): 1}
    for _ in range(takings):
        longer = {}
        for pairs, many in found.items():
            for mark in MARKS:
                before = pairs_before(pairs, mark)
                if before is not None:
                    longer[before] = longer.get(before, 0) + many
        found = longer
    return sum(found.values())


def tally_can_be(tally, *, ends_alike):
    """Tell whether some strand has an order with this tally."""
    if min(tally.counts) < 0 or tally.takings() > Strand.MOST - 2:
        return False
    if ends_alike:
        return tally.odd <= tally.quiet + tally.edge + 1 and (tally.toll() == 0 or tally.odd >= 1)
    return tally.odd <= tally.quiet + tally.edge and (tally.quiet + tally.odd == 0 or tally.edge >= 1)


def word_with(tally, ends_alike):
    """Return a possible word with a possible tally.

    Read back from its end, it makes alike pairs before it uses them up: between alike ends, the quiet takings
    are read first, then one odd taking for the edge and strife takings; between unlike ends, these come first.
    """
    edges = ["edge"] * tally.edge + ["strife"] * tally.strife
    quiets = ["quiet"] * tally.quiet
    odds = ["odd"] * tally.odd
    if ends_alike:
        back = quiets + odds[:1] + edges + odds[1:]
    else:
        back = edges + quiets + odds
    return back[::-1]


def strand_with(tally, *, ends_alike):
    """Return a pair (strand, order) with this tally."""
    if not tally_can_be(tally, ends_alike=ends_alike):
        raise NoSuchTally()
    log = log_from_word(word_with(tally, ends_alike), ends_alike=ends_alike)
    return freest(log), order_of(log)
