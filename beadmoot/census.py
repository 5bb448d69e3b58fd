"""Census: how many good books a strand has."""

from beadmoot.errors import TooManyStretches
from beadmoot.gaps import gaps
from beadmoot.shapes import Shapes
from beadmoot.strands import Strand

MOST_STRETCHES = 14


def count_books(strand):
    """Return the number of good books of a strand."""
    shapes = Shapes(strand)
    return shapes.ways(shapes.whole)


def both(left, right):
    """Return the numbers of groupings of two parts together, by their parties and lone parties."""
    found = {}
    for (parties, lone), many in left.items():
        for (others, alone), more in right.items():
            pair = (parties + others, lone + alone)
            found[pair] = found.get(pair, 0) + many * more
    return found


def begun(stretches, part):
    """Return the pair (parties, lone): whether a part begins a party, and one that is lone."""
    word, first, last = part[:3]
    if word != "party":
        return 0, 0
    return 1, (1 if first == last and len(stretches[first]) == 1 else 0)


def census_of(shapes, stretches, known, part):
    """Return the numbers of groupings of a part, by their parties and lone parties; known ones are kept."""
    if part in known:
        return known[part]
    found = {}
    for _, parts in shapes.options(part):
        groupings = {begun(stretches, part): 1}
        for smaller in parts:
            groupings = both(groupings, census_of(shapes, stretches, known, smaller))
        for pair, many in groupings.items():
            found[pair] = found.get(pair, 0) + many
    known[part] = found
    return found


def census(strand):
    """Return the number of good books for each pair (parties, lone) that a good book has."""
    if strand.unlike_pairs > MOST_STRETCHES:
        raise TooManyStretches(strand.unlike_pairs)
    shapes = Shapes(strand)
    found = census_of(shapes, strand.stretches(), {}, shapes.whole)
    return {pair: found[pair] for pair in sorted(found)}


def count_above(book):
    """Return the number of good books that are coarser than a book."""
    product = 1
    for gap in gaps(book):
        product = product * count_books(Strand([book.strand.kinds[place] for place in gap]))
    return product
