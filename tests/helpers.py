"""What the tests share: refusals as tuples, and walks that do not use the package's own plays."""

import random
from collections import Counter
from functools import cache
from itertools import combinations, permutations, product

from beadmoot.errors import MootError
from beadmoot.strands import Strand


def refusal(call, *args, **more):
    """Return (name of the error, its fields in order), or None if the call raises no MootError."""
    try:
        call(*args, **more)
    except MootError as error:
        return (error.__class__.__name__, *vars(error).values())
    return None


def all_kinds(size, variety):
    """Return all rows of kinds of this length, up to a renaming of the kinds."""
    rows = []
    for kinds in product(range(variety), repeat=size):
        firsts = sorted(set(kinds), key=kinds.index)
        if firsts == list(range(len(firsts))):
            rows.append(list(kinds))
    return rows


def all_strands(sizes, variety):
    return [Strand(kinds) for size in sizes for kinds in all_kinds(size, variety)]


def all_orders(size):
    return [list(order) for order in permutations(range(1, size - 1))]


def all_ring_orders(size):
    return [list(order) for order in permutations(range(size), size - 2)]


def walk(kinds, order, closed=False):
    """Take the beads of a list out; return the marks and the set of all neighbours that there ever were."""
    row = list(range(len(kinds)))
    met = pairs_of(row, closed)
    marks = []
    for bead in order:
        at = row.index(bead)
        left, right = row[at - 1], row[(at + 1) % len(row)]
        marks.append(plain_mark(kinds[left], kinds[bead], kinds[right]))
        row.remove(bead)
        met |= pairs_of(row, closed)
    return marks, met


def pairs_of(row, closed):
    pairs = set(zip(row, row[1:]))
    if closed:
        pairs.add((row[0], row[-1]))
    return pairs


def plain_mark(left, bead, right):
    """Tell the mark by the words of point 9."""
    number = len({left, bead, right})
    if number == 1:
        return "quiet"
    if number == 3:
        return "strife"
    return "odd" if left == right else "edge"


def groups_by(kinds, pairs):
    """Return the connected groups of beads, by spreading from each bead."""
    groups = []
    seen = set()
    for first in range(len(kinds)):
        if first in seen:
            continue
        group = {first}
        grows = True
        while grows:
            more = {b for a, b in pairs if a in group and kinds[a] == kinds[b]}
            more |= {a for a, b in pairs if b in group and kinds[a] == kinds[b]}
            grows = not more <= group
            group |= more
        seen |= group
        groups.append(tuple(sorted(group)))
    return groups


def book_by_walk(kinds, order, closed=False):
    """Return the parties of an order, found by walking it."""
    return tuple(groups_by(kinds, walk(kinds, order, closed)[1]))


@cache
def all_groupings(size):
    """Return all groupings of the numbers below size, as tuples of tuples in ascending order."""
    if size == 0:
        return [()]
    found = []
    for smaller in all_groupings(size - 1):
        found.append(smaller + ((size - 1,),))
        for at, group in enumerate(smaller):
            found.append(smaller[:at] + (group + (size - 1,),) + smaller[at + 1:])
    return found


def broken_rule(kinds, parties):
    """Return (rule, where) for the first broken rule among 1 to 3, None for a book; by the words of point 24."""
    size = len(kinds)
    home = {bead: index for index, party in enumerate(parties) for bead in party}
    for a, b in combinations(range(size), 2):
        if home[a] == home[b] and kinds[a] != kinds[b]:
            return 1, (a, b)
    for a in range(size):
        b = (a + 1) % size
        if kinds[a] == kinds[b] and home[a] != home[b]:
            return 2, (a, b)
    for p, q, r, s in combinations(range(size), 4):
        if home[p] == home[r] and home[q] == home[s] and home[p] != home[q]:
            return 3, (p, q, r, s)
    return None


def all_books(kinds):
    """Return the parties of all books of a small strand."""
    return [parties for parties in all_groupings(len(kinds)) if broken_rule(kinds, parties) is None]


def plain_gaps(kinds, parties):
    """Return the gaps by the words of point 27."""
    size = len(kinds)
    groups = []
    for place in range(size):
        if kinds[place] == kinds[(place + 1) % size]:
            continue
        for group in groups:
            if not any(parts(size, party, group[0], place) for party in parties):
                group.append(place)
                break
        else:
            groups.append([place])
    return [tuple(group) for group in groups]


def parts(size, party, first, second):
    """Tell whether a party has a bead on both ways from one place to the other."""
    ways = []
    for start, end in ((first, second), (second, first)):
        beads = set()
        place = start
        while place != end:
            place = (place + 1) % size
            beads.add(place)
        ways.append(bool(beads & set(party)))
    return ways == [True, True]


def plain_good(kinds, parties):
    """Tell whether no gap with more than two places has parties of two kinds only round it."""
    for gap in plain_gaps(kinds, parties):
        if len(gap) > 2 and len({kinds[place] for place in gap}) == 2:
            return False
    return True


def plain_coarser(parties, finer):
    return all(any(set(small) <= set(large) for large in parties) for small in finer)


@cache
def walked_outcomes(kinds, closed=False):
    """Return a dict: the number of orders for each (parties, edges, odd, strife, last two beads unlike), all walked."""
    size = len(kinds)
    found = Counter()
    for order in all_ring_orders(size) if closed else all_orders(size):
        marks, met = walk(kinds, order, closed)
        last = [kinds[bead] for bead in range(size) if bead not in order]
        parties = len(groups_by(kinds, met))
        found[(parties, marks.count("edge"), marks.count("odd"), marks.count("strife"), int(last[0] != last[1]))] += 1
    return found


@cache
def good_books(kinds):
    """Return the parties of all good books of a small strand."""
    return [parties for parties in all_books(kinds) if plain_good(kinds, parties)]


def lone_of(parties):
    """Return the number of parties with only one bead."""
    return len([party for party in parties if len(party) == 1])


def random_strands(seed, size, varieties):
    chance = random.Random(seed)
    return [Strand([chance.randrange(variety) for _ in range(size)]) for variety in varieties]


def price_of(prices, marks):
    """Return the price of a list of marks."""
    worth = {"quiet": prices.quiet, "odd": prices.odd, "edge": prices.edge, "strife": prices.strife}
    return sum(worth[mark] for mark in marks)


def toll_of(kinds, run):
    """Return the number of edge and strife takings of a run, walked."""
    marks = walk(kinds, run)[0]
    return marks.count("edge") + marks.count("strife")


def all_runs(size):
    """Return all runs of a strand with this many beads."""
    return [list(run) for many in range(size - 1) for run in permutations(range(1, size - 1), many)]


@cache
def walked_runs(kinds):
    """Return pairs (run, marks) for all runs of a small strand."""
    return [(run, walk(kinds, run)[0]) for run in all_runs(len(kinds))]


@cache
def walked_orders(kinds):
    """Return pairs (order, marks) for all orders of a small strand."""
    return [(order, walk(kinds, order)[0]) for order in all_orders(len(kinds))]


def left_by(size, run):
    """Return the stand that a run leaves."""
    return [bead for bead in range(size) if bead not in run]


def plain_log(kinds, order):
    """Return the entries of a run by the words of point 70."""
    row = list(range(len(kinds)))
    entries = []
    for bead in order:
        place = row.index(bead)
        left, right = kinds[row[place - 1]], kinds[row[place + 1]]
        mark = plain_mark(left, kinds[bead], right)
        if mark == "edge":
            mark = "left" if kinds[bead] == left else "right"
        entries.append((place, mark))
        row.remove(bead)
    return tuple(entries)


def plain_misfit(log):
    """Return where the reading back of a log stops, by the words of point 73: a row of pairs, True for alike."""
    pairs = [log.ends_alike]
    for at in reversed(range(len(log.entries))):
        place, mark = log.entries[at]
        if pairs[place - 1] != (mark in ("quiet", "odd")):
            return at
        pairs[place - 1:place] = {"quiet": [True, True], "odd": [False, False], "left": [True, False],
                                  "right": [False, True], "strife": [False, False]}[mark]
    return None


def last_places(many, mark="quiet"):
    """Return the entries that always take the last inner bead of a strand with this many entries."""
    return [(many - at, mark) for at in range(many)]
