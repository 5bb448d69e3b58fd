import random
import unittest
from itertools import permutations, product

from beadmoot.nests import Nest
from beadmoot.strands import Strand
from beadmoot.tallies import MARKS, Tally
from tests.helpers import all_kinds, book_by_walk, random_strands, refusal, toll_of, walk, walked_orders

LEVELS = [[1, 2, 1, 3, 4], [1, 1, 1, 2, 3], [5, 5, 5, 5, 6]]


def grouped(chance, kinds, most):
    """Return the clans of some grouping of kinds, given at random."""
    clans = {kind: chance.randrange(most) for kind in sorted(set(kinds))}
    return [clans[kind] for kind in kinds]


def random_levels(chance, size, many):
    """Return nested levels, the finest one first."""
    levels = [[chance.randrange(chance.choice([2, 4, 9])) for _ in range(size)]]
    while len(levels) < many:
        levels.append(grouped(chance, levels[-1], chance.choice([1, 2, 3, 5])))
    return levels


def counts_of(marks):
    return tuple(marks.count(mark) for mark in MARKS)


class Creation(unittest.TestCase):
    """Point 90."""

    def test_attributes(self):
        nest = Nest(LEVELS)
        self.assertIsInstance(nest.strands, tuple)
        self.assertEqual([strand.kinds for strand in nest.strands], [tuple(kinds) for kinds in LEVELS])
        self.assertIsInstance(nest.strands[0], Strand)
        tuples = Nest(levels=tuple(tuple(kinds) for kinds in LEVELS))
        self.assertEqual([strand.kinds for strand in tuples.strands], [tuple(kinds) for kinds in LEVELS])

    def test_one_and_six_levels(self):
        self.assertEqual(len(Nest([[1, 2]]).strands), 1)
        levels = [[0, 1, 2, 3, 4, 5, 6], [0, 0, 2, 3, 4, 5, 6], [0, 0, 2, 2, 4, 5, 6], [0, 0, 2, 2, 4, 4, 6],
                  [0, 0, 0, 0, 1, 1, 1], [999] * 7]
        self.assertEqual(len(Nest(levels).strands), 6)
        self.assertEqual(len(Nest([[3, 4]] * 7).strands), 7)

    def test_no_level(self):
        self.assertEqual(refusal(Nest, []), ("NotNested", 0, None))
        self.assertEqual(refusal(Nest, ()), ("NotNested", 0, None))

    def test_levels_that_are_no_strands(self):
        for levels, at in (([[]], None), ([[1]], None), ([[1] * 25], None), ([[1, 1000]], 1), ([[-1, 1000]], 0),
                           ([[1, 2], [1, 2, -1]], 2), ([[1, 2], [1], [1000, 1]], None), ([[1, 2], [1000, 1], [1]], 0)):
            self.assertEqual(refusal(Nest, levels), ("BadStrand", at), levels)

    def test_levels_of_other_lengths(self):
        self.assertEqual(refusal(Nest, [[1, 2], [1, 2, 3]]), ("NotNested", 1, None))
        self.assertEqual(refusal(Nest, [[1, 2, 3], [1, 1, 1], [1, 1], [1, 1]]), ("NotNested", 2, None))

    def test_levels_that_part_what_the_one_before_joins(self):
        self.assertEqual(refusal(Nest, [[1, 1], [1, 2]]), ("NotNested", 1, (0, 1)))
        self.assertEqual(refusal(Nest, [[1, 2, 1, 2], [1, 2, 3, 4]]), ("NotNested", 1, (0, 2)))
        self.assertEqual(refusal(Nest, [[3, 2, 1, 2], [1, 2, 3, 4]]), ("NotNested", 1, (1, 3)))
        self.assertEqual(refusal(Nest, [[1, 2, 3], [1, 1, 2], [1, 2, 2]]), ("NotNested", 2, (0, 1)))
        # Level 2 goes with level 0, but not with level 1.
        self.assertEqual(refusal(Nest, [[1, 2, 3], [1, 2, 1], [1, 2, 3]]), ("NotNested", 2, (0, 2)))
        self.assertIsNone(refusal(Nest, [[1, 1, 2], [2, 2, 1]]))

    def test_each_error_for_all_levels_before_the_next_one(self):
        self.assertEqual(refusal(Nest, [[1, 1], [1, 2], [1, 2, 3], [1]]), ("BadStrand", None))
        self.assertEqual(refusal(Nest, [[1, 1], [1, 2], [1, 2, 3]]), ("NotNested", 2, None))
        self.assertEqual(refusal(Nest, [[1, 1, 1], [1, 2], [1, 1000]]), ("BadStrand", 1))

    def test_all_pairs_of_small_levels(self):
        for fine, coarse in product(all_kinds(4, 4), repeat=2):
            torn = [(a, b) for a in range(4) for b in range(a + 1, 4)
                    if fine[a] == fine[b] and coarse[a] != coarse[b]]
            wanted = ("NotNested", 1, torn[0]) if torn else None
            self.assertEqual(refusal(Nest, [fine, coarse]), wanted)

    def test_the_lists_are_copied(self):
        levels = [[1, 2, 3], [1, 1, 3]]
        nest = Nest(levels)
        levels[0][1] = 5
        levels.clear()
        nest.greatest_tolls().clear()
        nest.tallies([1]).clear()
        nest.books([1]).clear()
        nest.loudest().clear()
        self.assertEqual([strand.kinds for strand in nest.strands], [(1, 2, 3), (1, 1, 3)])
        self.assertEqual((len(nest.tallies([1])), len(nest.books([1])), nest.loudest()), (2, 2, [1]))


class Orders(unittest.TestCase):
    """Point 91: `tallies` and `books`."""

    def test_example(self):
        nest = Nest(LEVELS)
        tallies = nest.tallies([2, 1, 3])
        self.assertIsInstance(tallies, list)
        self.assertIsInstance(tallies[0], Tally)
        self.assertEqual([tally.counts for tally in tallies], [(0, 0, 0, 3), (0, 0, 2, 1), (2, 0, 1, 0)])
        self.assertEqual([book.parties for book in nest.books(order=[2, 1, 3])],
                         [((0,), (1,), (2,), (3,), (4,)), ((0, 1, 2), (3,), (4,)), ((0, 1, 2, 3), (4,))])

    def test_against_walks(self):
        chance = random.Random(91)
        for _ in range(150):
            levels = random_levels(chance, chance.choice([2, 3, 5, 7, 24]), chance.randrange(1, 7))
            order = chance.sample(range(1, len(levels[0]) - 1), len(levels[0]) - 2)
            nest = Nest(levels)
            tallies, books = nest.tallies(order), nest.books(order)
            self.assertEqual([tally.counts for tally in tallies],
                             [counts_of(walk(kinds, order)[0]) for kinds in levels])
            self.assertEqual([book.parties for book in books], [book_by_walk(kinds, order) for kinds in levels])
            for finer, coarser in zip(tallies, tallies[1:]):
                self.assertGreaterEqual(finer.strife, coarser.strife)
                self.assertLessEqual(finer.quiet, coarser.quiet)
            for finer, coarser in zip(books, books[1:]):
                for party in finer:
                    self.assertTrue(any(set(party) <= set(large) for large in coarser))

    def test_errors(self):
        nest = Nest(LEVELS)
        for order, at in (([], 0), ([1, 2], 2), ([1, 1, 2], 1), ([0, 1, 2], 0), ([1, 2, 4], 2), ([1, 2, 3, 3], 3),
                          ([9], 0), ((2, 1), 2)):
            self.assertEqual(refusal(nest.tallies, order), ("BadRun", at))
            self.assertEqual(refusal(nest.books, order), ("BadRun", at))
        self.assertEqual(refusal(Nest([[1, 2]]).tallies, [0]), ("BadRun", 0))
        self.assertEqual([tally.counts for tally in Nest([[1, 2]]).tallies([])], [(0, 0, 0, 0)])


class Tolls(unittest.TestCase):
    """Point 91: `greatest_tolls` and `loudest`."""

    def check(self, levels):
        nest = Nest(levels)
        order = nest.loudest()
        self.assertIsInstance(order, list)
        self.assertEqual(sorted(order), list(range(1, len(levels[0]) - 1)))
        self.assertEqual([toll_of(kinds, order) for kinds in levels], nest.greatest_tolls())

    def test_examples(self):
        nest = Nest(LEVELS)
        self.assertEqual(nest.greatest_tolls(), [3, 3, 3])
        self.check(LEVELS)
        self.assertEqual((Nest([[1, 2]]).greatest_tolls(), Nest([[1, 2]]).loudest()), ([0], []))

    def test_against_all_orders(self):
        chance = random.Random(92)
        for _ in range(80):
            levels = random_levels(chance, chance.choice([3, 4, 5, 6]), chance.randrange(1, 7))
            wanted = [max(marks.count("edge") + marks.count("strife") for _, marks in walked_orders(tuple(kinds)))
                      for kinds in levels]
            self.assertEqual(Nest(levels).greatest_tolls(), wanted)
            self.check(levels)

    def test_all_two_levels_of_five_beads(self):
        for fine in all_kinds(5, 5):
            kinds = sorted(set(fine))
            for clans in permutations((0, 0, 0, 1, 1, 2)[:len(kinds) + 1], len(kinds)):
                self.check([fine, [clans[kind] for kind in fine]])

    def test_one_clan_and_two(self):
        for strand in random_strands(91, 24, [2, 3, 4, 8]):
            kinds = list(strand.kinds)
            two = [kind % 2 for kind in kinds]
            nest = Nest([kinds, two, [7] * 24])
            self.check([kinds, two, [7] * 24])
            self.assertEqual(nest.greatest_tolls()[2], 0)
            pairs = Strand(two).unlike_pairs // 2
            self.assertEqual(nest.greatest_tolls()[1], 22 - pairs + Strand(two).ends_unlike)

    def test_24_beads_and_six_levels(self):
        chance = random.Random(93)
        for _ in range(25):
            self.check(random_levels(chance, 24, 6))


if __name__ == "__main__":
    unittest.main()
