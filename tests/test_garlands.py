import random
import unittest
from itertools import combinations

from beadmoot.garlands import join_strands, order_by_way, past, ways
from beadmoot.outcomes import Outcomes
from beadmoot.strands import Strand
from tests.helpers import (all_strands, book_by_walk, left_by, random_strands, refusal, walk, walked_orders,
                           walked_runs)

EXAMPLE = Strand([1, 2, 1, 3, 1])


def stands_of(size):
    """Return all stands of a strand with this many beads."""
    return [[0, *inner, size - 1] for many in range(size - 1) for inner in combinations(range(1, size - 1), many)]


def walked_past(kinds):
    """Return, for each stand, all pairs (ended, edges) of the runs that leave it."""
    found = {}
    for run, marks in walked_runs(kinds):
        pair = (marks.count("odd") + marks.count("strife"), marks.count("edge"))
        found.setdefault(tuple(left_by(len(kinds), run)), set()).add(pair)
    return found


def walked_ways(kinds):
    """Return, for each stand, all outcomes of the orders that come by it."""
    found = {}
    for order, marks in walked_orders(kinds):
        outcome = (len(book_by_walk(kinds, order)), marks.count("edge"))
        for many in range(len(order) + 1):
            found.setdefault(tuple(left_by(len(kinds), order[:many])), set()).add(outcome)
    return found


def spread(entries):
    return [(number, edges) for number, low, high in entries for edges in range(low, high + 1)]


class Joining(unittest.TestCase):
    """Point 87."""

    def test_examples(self):
        strand, beads = join_strands([Strand([1, 2]), Strand([2, 3, 4]), Strand([4, 1])])
        self.assertIsInstance(strand, Strand)
        self.assertEqual((strand.kinds, beads), ((1, 2, 3, 4, 1), [0, 1, 3, 4]))
        strand, beads = join_strands(strands=(EXAMPLE,))
        self.assertEqual((strand.kinds, beads), (EXAMPLE.kinds, [0, 4]))
        self.assertIsInstance(join_strands([EXAMPLE, EXAMPLE]), tuple)

    def test_no_strands(self):
        self.assertEqual(refusal(join_strands, []), ("BadJoin", 0))
        self.assertEqual(refusal(join_strands, ()), ("BadJoin", 0))

    def test_bad_joins(self):
        one, two = Strand([1, 2]), Strand([2, 1])
        self.assertEqual(refusal(join_strands, [one, one]), ("BadJoin", 1))
        self.assertEqual(refusal(join_strands, [one, two, two, one]), ("BadJoin", 2))
        self.assertEqual(refusal(join_strands, [one, two] * 149 + [one, one]), ("BadJoin", 299))
        self.assertIsNone(refusal(join_strands, [one, two, one, two]))

    def test_24_and_25_beads(self):
        one, two = Strand([1, 2]), Strand([2, 1])
        strand, beads = join_strands([one, two] * 11 + [one])
        self.assertEqual((strand.size, beads), (24, list(range(24))))
        self.assertEqual(refusal(join_strands, [one, two] * 12), ("BadStrand", None))
        self.assertEqual(refusal(join_strands, [one, two] * 150), ("BadStrand", None))
        long = Strand([1] * 24)
        self.assertEqual(join_strands([long])[1], [0, 23])
        self.assertEqual(refusal(join_strands, [long, Strand([1, 1])]), ("BadStrand", None))
        self.assertEqual(refusal(join_strands, [long, Strand([1, 1]), two]), ("BadJoin", 2))

    def test_the_parts_of_a_strand_make_it_again(self):
        for strand in random_strands(87, 24, [2, 5]):
            for stand in ([0, 23], [0, 5, 6, 20, 23], list(range(24))):
                parts = [Strand(strand.kinds[i:j + 1]) for i, j in zip(stand, stand[1:])]
                joined, beads = join_strands(parts)
                self.assertEqual((joined.kinds, beads), (strand.kinds, stand))


class Past(unittest.TestCase):
    """Point 88."""

    def test_examples(self):
        self.assertEqual(past(EXAMPLE, [0, 1, 2, 3, 4]), [(0, 0, 0)])
        self.assertEqual(past(EXAMPLE, [0, 2, 4]), [(2, 0, 0)])
        self.assertEqual(past(EXAMPLE, [0, 3, 4]), [(1, 1, 1), (2, 0, 0)])
        self.assertEqual(past(strand=EXAMPLE, beads=(0, 4)), [(2, 0, 1), (3, 0, 0)])

    def test_against_all_runs(self):
        for strand in all_strands([2, 3, 4, 5, 6], 3) + all_strands([7], 3)[::12]:
            for stand, pairs in walked_past(strand.kinds).items():
                found = past(strand, list(stand))
                self.assertIsInstance(found, list)
                self.assertEqual(spread(found), sorted(pairs), (strand.kinds, stand))

    def test_the_two_ends_alone(self):
        for strand in random_strands(88, 24, [1, 2, 3, 24]):
            wanted = [(parties - 1 - strand.ends_unlike, low, high) for parties, _, _, low, high in Outcomes(strand)]
            self.assertEqual(past(strand, [0, 23]), wanted)
            self.assertEqual(past(strand, list(range(24))), [(0, 0, 0)])

    def test_sums_over_the_spans_of_24_beads(self):
        chance = random.Random(88)
        for strand in random_strands(188, 24, [2, 3, 4, 24] * 3):
            stand = [0, *sorted(chance.sample(range(1, 23), 4)), 23]
            pairs = {(0, 0)}
            for i, j in zip(stand, stand[1:]):
                part = Strand(strand.kinds[i:j + 1])
                own = [(parties - 1 - part.ends_unlike, edges) for parties, edges in
                       spread([(row[0], row[3], row[4]) for row in Outcomes(part)])]
                pairs = {(a + c, b + d) for a, b in pairs for c, d in own}
            self.assertEqual(spread(past(strand, stand)), sorted(pairs))

    def test_bad_lists(self):
        for beads, at in (([], 0), ([1, 4], 0), ([0], 1), ([0, 3], 2), ([0, 2, 2, 4], 2), ([0, 5], 1),
                          ([0, 4, 4], 2), ([0, 3, 1, 4], 2), ([0, -1], 1), ([0, 10 ** 99], 1)):
            for call, more in ((past, []), (ways, []), (order_by_way, [99, 99])):
                self.assertEqual(refusal(call, EXAMPLE, beads, *more), ("BadLeft", at), beads)


class Ways(unittest.TestCase):
    """Point 89."""

    def check(self, strand, stand, parties, edges):
        order = order_by_way(strand, stand, parties, edges)
        self.assertIsInstance(order, list)
        self.assertEqual(sorted(order), list(range(1, strand.size - 1)))
        self.assertEqual(left_by(strand.size, order[:strand.size - len(stand)]), stand)
        self.assertEqual(len(book_by_walk(strand.kinds, order)), parties)
        self.assertEqual(walk(strand.kinds, order)[0].count("edge"), edges)

    def check_all(self, strand, stand):
        found = ways(strand, stand)
        self.assertIsInstance(found, list)
        for parties, low, high in found:
            for edges in {low, (low + high) // 2, high}:
                self.check(strand, stand, parties, edges)
            self.refuse(strand, stand, parties, low - 1, "few edges", low)
            self.refuse(strand, stand, parties, high + 1, "many edges", high)
        self.refuse(strand, stand, found[0][0] - 1, 0, "few parties", found[0][0])
        self.refuse(strand, stand, found[-1][0] + 1, -1, "many parties", found[-1][0])

    def refuse(self, strand, stand, parties, edges, word, bound):
        self.assertEqual(refusal(order_by_way, strand, stand, parties, edges), ("CannotBe", word, bound))

    def test_examples(self):
        self.assertEqual(ways(EXAMPLE, [0, 2, 4]), [(3, 0, 0)])
        self.assertEqual(ways(EXAMPLE, [0, 1, 3, 4]), [(4, 0, 0)])
        self.assertEqual(ways(strand=EXAMPLE, beads=(0, 3, 4)), [(3, 1, 1), (4, 0, 0)])
        self.assertEqual(ways(EXAMPLE, [0, 4]), [(3, 0, 1), (4, 0, 0)])
        self.assertEqual(order_by_way(strand=EXAMPLE, beads=(0, 3, 4), parties=3, edges=1), [1, 2, 3])
        self.assertEqual(refusal(order_by_way, EXAMPLE, [0, 2, 4], 4, 0), ("CannotBe", "many parties", 3))

    def test_against_all_orders(self):
        for strand in all_strands([2, 3, 4, 5, 6], 3) + all_strands([7], 3)[::30]:
            for stand, outcomes in walked_ways(strand.kinds).items():
                self.assertEqual(spread(ways(strand, list(stand))), sorted(outcomes), (strand.kinds, stand))

    def test_orders_by_all_ways(self):
        for strand in all_strands([2, 3, 4, 5], 3) + all_strands([6], 3)[::4]:
            for stand in stands_of(strand.size):
                self.check_all(strand, stand)

    def test_all_beads_and_the_two_ends(self):
        for strand in random_strands(89, 24, [1, 2, 3, 24]):
            wanted = [(parties, low, high) for parties, _, _, low, high in Outcomes(strand)]
            for stand in (list(range(24)), [0, 23]):
                self.assertEqual(ways(strand, stand), wanted)
                self.check_all(strand, stand)

    def test_24_beads(self):
        chance = random.Random(89)
        for strand in random_strands(189, 24, [1, 2, 3, 4, 24] * 3):
            self.check_all(strand, [0, *sorted(chance.sample(range(1, 23), chance.randrange(1, 15))), 23])

    def test_the_list_is_not_changed(self):
        stand = [0, 2, 4]
        past(EXAMPLE, stand).clear()
        ways(EXAMPLE, stand).clear()
        order_by_way(EXAMPLE, stand, 3, 0).clear()
        self.assertEqual(stand, [0, 2, 4])
        self.assertEqual(past(EXAMPLE, stand), [(2, 0, 0)])
        self.assertEqual(ways(EXAMPLE, stand), [(3, 0, 0)])


if __name__ == "__main__":
    unittest.main()
