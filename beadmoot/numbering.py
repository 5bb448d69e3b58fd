"""Numbering: each good book of a strand has a number."""

from beadmoot.books import Book
from beadmoot.errors import NoSuchNumber
from beadmoot.gaps import check_good
from beadmoot.parties import parties_by
from beadmoot.shapes import Shapes


def links_at(shapes, part, number):
    """Return the pairs of stretches that a part joins in its grouping with this number."""
    left = number
    for cut, parts in shapes.options(part):
        many = shapes.ways_of_all(parts)
        if left < many:
            links = [] if part[0] == "row" or cut == part[1] else [(part[1], cut)]
            for smaller in parts:
                links = links + links_at(shapes, smaller, left % shapes.ways(smaller))
                left = left // shapes.ways(smaller)
            return links
        left = left - many
    return []


def book_at(strand, number):
    """Return the good book with this number."""
    shapes = Shapes(strand)
    many = shapes.ways(shapes.whole)
    if not 0 <= number < many:
        raise NoSuchNumber(number, many)
    stretches = strand.stretches()
    pairs = [(stretch[0], bead) for stretch in stretches for bead in stretch]
    for a, b in links_at(shapes, shapes.whole, number):
        pairs.append((stretches[a][0], stretches[b][0]))
    return Book(strand, parties_by(strand, pairs))


def cut_of(homes, part):
    """Return where a book cuts a part; homes[k] is the party of stretch k."""
    word, first, last = part[:3]
    own = [at for at in range(first, last + 1) if homes[at] == homes[first]]
    if word == "row":
        return own[-1]
    return own[1] if len(own) > 1 else first


def number_within(shapes, homes, part):
    """Return the number of the grouping that a book gives to a part."""
    number = 0
    for cut, parts in shapes.options(part):
        if cut == cut_of(homes, part):
            scale = 1
            for smaller in parts:
                number = number + scale * number_within(shapes, homes, smaller)
                scale = scale * shapes.ways(smaller)
            return number
        number = number + shapes.ways_of_all(parts)
    return number


def number_of(book):
    """Return the number of a good book."""
    check_good(book)
    homes = [book.party_of(stretch[0]) for stretch in book.strand.stretches()]
    shapes = Shapes(book.strand)
    return number_within(shapes, homes, shapes.whole)
