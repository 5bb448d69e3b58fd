"""Playing: orders that have a given book."""

from beadmoot.errors import OutOfReach
from beadmoot.gaps import check_good
from beadmoot.spans import mark_between, narrow_first


def book_numbers(book):
    """Return the tuple (odd, strife, least_edges, greatest_edges) of a good book."""
    check_good(book)
    strand = book.strand
    odd = strand.unlike_pairs - book.size + 1 - strand.ends_unlike
    strife = 2 * book.size - strand.unlike_pairs - 2
    if strand.variety == 1:
        return odd, strife, 0, 0
    least = book.size - 1 + strand.ends_unlike - book.lone
    greatest = strand.size - 1 - book.size + strand.ends_unlike
    return odd, strife, least, greatest


def may_meet(book, i, j):
    """Tell whether two beads can meet without connecting two parties of the book."""
    return (i, j) in book or book.strand.kinds[i] != book.strand.kinds[j]


def add_ways(ways, left, right, k, edge):
    """Add the ways that end with bead k, one for each number of edge takings that has none yet."""
    for low in left:
        for high in right:
            ways.setdefault(low + high + edge, (k, low, high))


def span_ways(book, table, i, j):
    """Return a pair for the span (i, j): its least number of strife takings, and how to clear it with that number.

    The second part has each possible number of edge takings as a key, and as its value the last bead
    with the numbers of edge takings in the two spans beside it.
    """
    least = None
    ways = {}
    for k in range(i + 1, j):
        if (i, k) not in table or (k, j) not in table:
            continue
        mark = mark_between(book.strand, i, k, j)
        left_strife, left = table[(i, k)]
        right_strife, right = table[(k, j)]
        strife = left_strife + right_strife + (1 if mark == "strife" else 0)
        if least is None or strife < least:
            least = strife
            ways = {}
        if strife == least:
            add_ways(ways, left, right, k, 1 if mark == "edge" else 0)
    return least, ways


def ways_table(book):
    """Return span_ways for all spans that can be cleared without connecting two parties of the book."""
    table = {}
    for i, j in narrow_first(book.strand):
        if not may_meet(book, i, j):
            continue
        if j == i + 1:
            table[(i, j)] = 0, {0: None}
            continue
        least, ways = span_ways(book, table, i, j)
        if ways:
            table[(i, j)] = least, ways
    return table


def run_by(table, i, j, edges):
    """Return a run that clears the span (i, j) with this number of edge takings."""
    if j == i + 1:
        return []
    k, low, high = table[(i, j)][1][edges]
    return run_by(table, i, k, low) + run_by(table, k, j, high) + [k]


def play_book(book, *, edges=None):
    """Return an order with this book and this number of edge takings, the least one if it is None.

    If no meeting connects two parties, the book of the order has no fewer parties than the given one,
    and each party more costs two more strife takings. So the least number of them gives the book itself.
    """
    least, greatest = book_numbers(book)[2:]
    wanted = least if edges is None else edges
    if not least <= wanted <= greatest:
        raise OutOfReach(least, greatest)
    return run_by(ways_table(book), 0, book.strand.size - 1, wanted)
