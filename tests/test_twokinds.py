import unittest
from itertools import combinations

from beadmoot.census import count_books
from beadmoot.outcomes import Outcomes
from beadmoot.strands import Strand
from beadmoot.twokinds import lone_set, two_kind_numbers
from tests.helpers import all_strands, good_books, lone_of, random_strands, refusal, walked_outcomes


def two_kinds(sizes):
    return [strand for strand in all_strands(sizes, 2) if strand.variety == 2]


def lone_sets(strand):
    """Return all sets of beads that are stretches by themselves and not neighbours, by the words of point 53."""
    size = strand.size
    single = [bead for bead in range(size) if strand.kinds[bead] != strand.kinds[bead - 1]
              and strand.kinds[bead] != strand.kinds[(bead + 1) % size]]
    return [list(beads) for many in range(len(single) + 1) for beads in combinations(single, many)
            if not any((a + 1) % size == b or (b + 1) % size == a for a, b in combinations(beads, 2))]


class TwoKinds(unittest.TestCase):
    """Points 53 and 54."""

    def test_examples(self):
        self.assertEqual(two_kind_numbers(Strand([1, 2, 1, 2, 1])), (3, 2, 0, 1, 2))
        self.assertEqual(two_kind_numbers(strand=Strand([1, 2])), (2, 2, 0, 0, 1))
        self.assertEqual(two_kind_numbers(Strand([1, 2] * 12)), (13, 12, 1, 11, 208012))
        self.assertEqual(two_kind_numbers(Strand([1] * 12 + [2] * 12)), (2, 0, 2, 22, 1))
        self.assertEqual(two_kind_numbers(Strand([1] * 23 + [2])), (2, 1, 1, 22, 1))

    def test_against_all_orders_and_books(self):
        for strand in two_kinds(range(2, 8)):
            parties, lone, least, greatest, many = two_kind_numbers(strand)
            found = walked_outcomes(strand.kinds)
            self.assertEqual({outcome[0] for outcome in found}, {parties})
            self.assertEqual({outcome[1] for outcome in found}, set(range(least, greatest + 1)))
            books = good_books(strand.kinds)
            self.assertEqual(len(books), many)
            self.assertEqual(max(lone_of(book) for book in books), lone)

    def test_lone_sets(self):
        for strand in two_kinds(range(2, 11)):
            beads = lone_set(strand)
            self.assertIsInstance(beads, list)
            sets = lone_sets(strand)
            self.assertIn(beads, sets)
            self.assertEqual(len(beads), max(len(other) for other in sets))
            self.assertEqual(beads, sorted(beads))
            if strand.size > 2:
                self.assertEqual(len(beads), two_kind_numbers(strand)[1])

    def test_lone_together(self):
        for strand in two_kinds(range(3, 8)):
            wanted = [(bead,) for bead in lone_set(strand)]
            self.assertTrue(any(set(wanted) <= set(book) for book in good_books(strand.kinds)))

    def test_two_beads(self):
        self.assertEqual(len(lone_set(strand=Strand([1, 2]))), 1)
        self.assertEqual(two_kind_numbers(Strand([1, 2]))[1], 2)

    def test_24_beads(self):
        for strand in random_strands(53, 24, [2] * 8) + [Strand([1, 2] * 12), Strand([2] + [1] * 22 + [2])]:
            parties, lone, least, greatest, many = two_kind_numbers(strand)
            self.assertEqual(Outcomes(strand).rows, ((parties, Outcomes(strand).rows[0][1], 0, least, greatest),))
            self.assertEqual(parties, strand.unlike_pairs // 2 + 1)
            self.assertEqual(len(lone_set(strand)), lone)
            self.assertEqual(many, count_books(strand))
            for a, b in zip(lone_set(strand), lone_set(strand)[1:]):
                self.assertGreater(b - a, 1)

    def test_not_two_kinds(self):
        for kinds, variety in (([1, 1], 1), ([1] * 24, 1), ([1, 2, 3], 3), (list(range(24)), 24)):
            self.assertEqual(refusal(two_kind_numbers, Strand(kinds)), ("NotTwoKinds", variety))
            self.assertEqual(refusal(lone_set, Strand(kinds)), ("NotTwoKinds", variety))

    def test_new_each_time(self):
        strand = Strand([1, 2, 1, 2, 1])
        before = lone_set(strand)
        lone_set(strand).clear()
        self.assertEqual(lone_set(strand), before)


if __name__ == "__main__":
    unittest.main()
