"""Claims: statements about a strand together with the papers that are to show them."""

from beadmoot.books import Book
from beadmoot.errors import BadBook, BadClaim, BadFloors, BadRun
from beadmoot.logs import fits
from beadmoot.orders import check_run, tally_of, total_of
from beadmoot.outcomes import Outcomes
from beadmoot.parties import book_of
from beadmoot.ranges import check_ranges, is_covered, ranges
from beadmoot.spans import check_floors, floors, least_order, least_total

# The first entry of a claim, and how many entries it then has.
FORMS = (("can", 4), ("book", 3), ("cannot", 4), ("least", 5), ("fits", 2))


def is_order(strand, order):
    """Tell whether a list is an order of the strand."""
    try:
        check_run(strand, order, whole=True)
    except BadRun:
        return False
    return True


def shows_can(strand, parties, edges, order):
    """Tell whether an order shows that an outcome is possible."""
    if not is_order(strand, order):
        return False
    return book_of(strand, order).size == parties and tally_of(strand, order).edge == edges


def shows_book(strand, parties, order):
    """Tell whether an order shows that a list of parties is the book of an order."""
    try:
        book = Book(strand, parties)
    except BadBook:
        return False
    return is_order(strand, order) and book_of(strand, order).parties == book.parties


def shows_cannot(strand, parties, edges, table):
    """Tell whether a table of ranges shows that an outcome is not possible."""
    try:
        entries = check_ranges(strand, table)
    except BadFloors:
        return False
    return not is_covered(entries, 2 * parties - strand.unlike_pairs - 2, edges, edges)


def shows_least(strand, prices, total, order, table):
    """Tell whether an order and a table of floors show that this is the least price of an order."""
    try:
        bound = check_floors(strand, prices, table)
    except BadFloors:
        return False
    return bound == total and is_order(strand, order) and total_of(strand, order, prices) == total


def judge(strand, claim):
    """Tell whether the papers of a claim show it."""
    if len(claim) == 0 or (claim[0], len(claim)) not in FORMS:
        raise BadClaim()
    word = claim[0]
    if word == "can":
        return shows_can(strand, claim[1], claim[2], claim[3])
    if word == "book":
        return shows_book(strand, claim[1], claim[2])
    if word == "cannot":
        return shows_cannot(strand, claim[1], claim[2], claim[3])
    if word == "least":
        return shows_least(strand, claim[1], claim[2], claim[3], claim[4])
    return fits(claim[1], strand)


def claim_for(strand, parties, edges):
    """Return a claim, with papers that show it, that an outcome is possible or that it is not."""
    outcomes = Outcomes(strand)
    if (parties, edges) in outcomes:
        return "can", parties, edges, outcomes.order(parties, edges)
    return "cannot", parties, edges, ranges(strand)


def least_claim(strand, prices):
    """Return a claim, with papers that show it, about the least price of an order."""
    return "least", prices, least_total(strand, prices), least_order(strand, prices), floors(strand, prices)
