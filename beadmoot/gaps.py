"""Gaps: the places of a closed strand that no party of a book parts from each other."""

from beadmoot.errors import NotGood
from beadmoot.strands import unlike_places


def is_parted(book, first, second):
    """Tell whether a party of the book parts two places, the first one not behind the second one."""
    for party in book.parties:
        between = [bead for bead in party if first < bead <= second]
        if 0 < len(between) < len(party):
            return True
    return False


def first_of_gap(book, places, place):
    """Return the first of the ascending places that is not parted from the given one of them."""
    for first in places:
        if not is_parted(book, first, place):
            return first
    return place


def gaps(book):
    """Return the gaps of a book as tuples of places."""
    places = unlike_places(book.strand.kinds)
    found = {}
    for place in places:
        found.setdefault(first_of_gap(book, places, place), []).append(place)
    return [tuple(gap) for gap in found.values()]


def parties_round(book):
    """Return, for each gap, the indexes of the parties that stand round it."""
    return [tuple([book.party_of(place) for place in gap]) for gap in gaps(book)]


def is_narrow(book, gap):
    """Tell whether a gap has more than two places and parties of two kinds only round it."""
    kinds = [book.strand.kinds[place] for place in gap]
    return len(gap) > 2 and len(set(kinds)) == 2


def narrow_gaps(book):
    """Return the ascending list of the indexes of the narrow gaps."""
    return [index for index, gap in enumerate(gaps(book)) if is_narrow(book, gap)]


def is_good(book):
    """Tell whether a book has no narrow gap."""
    return not narrow_gaps(book)


def check_good(book):
    """Raise NotGood with the first narrow gap if the book is not good."""
    narrow = narrow_gaps(book)
    if narrow:
        raise NotGood(narrow[0])
