"""Mending: making a book good by joining as few parties as possible."""

from beadmoot.gaps import gaps, is_narrow


def narrow_places(book):
    """Return the narrow gaps of a book as tuples of places."""
    return [gap for gap in gaps(book) if is_narrow(book, gap)]


def joins_needed(book):
    """Return by how many parties a good book that is coarser must be smaller."""
    return sum([len(gap) // 2 - 1 for gap in narrow_places(book)])


def mend(book):
    """Return a good book that is coarser than the book and has as many parties as possible."""
    mended = book
    for gap in narrow_places(book):
        # Round a narrow gap the two kinds alternate: every second party is of the first one's kind.
        for place in gap[2::2]:
            mended = mended.joined(gap[0], place)
    return mended
