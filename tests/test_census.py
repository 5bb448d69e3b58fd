import unittest
from collections import Counter

from beadmoot.books import Book
from beadmoot.census import census, count_above, count_books
from beadmoot.gaps import gaps
from beadmoot.strands import Strand
from tests.helpers import all_books, all_strands, good_books, lone_of, plain_coarser, random_strands, refusal

STRAND = Strand([1, 2, 1, 3, 1])


class Counts(unittest.TestCase):
    """Points 50 and 51: `count_books` and `census`."""

    def test_examples(self):
        self.assertEqual(census(STRAND), {(3, 2): 1, (4, 3): 1})
        self.assertEqual(count_books(strand=STRAND), 2)
        for size in (2, 3, 24):
            self.assertEqual(census(strand=Strand([6] * size)), {(1, 0): 1})
            self.assertEqual(count_books(Strand([6] * size)), 1)
        self.assertEqual(census(Strand([1, 2])), {(2, 2): 1})

    def test_against_all_books(self):
        for strand in all_strands(range(2, 8), 4):
            books = good_books(strand.kinds)
            self.assertEqual(count_books(strand), len(books))
            found = Counter((len(parties), lone_of(parties)) for parties in books)
            self.assertEqual(list(census(strand).items()), sorted(found.items()))

    def test_eight_beads(self):
        for kinds in ([1, 2] * 4, [1, 2, 3, 1, 2, 3, 1, 2], [1, 2, 1, 3, 1, 2, 1, 3], list(range(8))):
            found = Counter((len(parties), lone_of(parties)) for parties in good_books(tuple(kinds)))
            self.assertEqual(census(Strand(kinds)), found)
            self.assertEqual(count_books(Strand(kinds)), sum(found.values()))

    def test_stretches_do_not_matter_for_the_count(self):
        self.assertEqual(count_books(Strand([1, 1, 2, 2, 2, 1, 3, 3, 1])), 2)
        self.assertEqual(census(Strand([1, 1, 2, 2, 2, 1, 3, 3, 1])), {(3, 0): 1, (4, 1): 1})

    def test_known_numbers_of_24_beads(self):
        # Two alternating kinds have as many good books as there are plane trees with half as many edges.
        self.assertEqual(count_books(Strand([1, 2] * 12)), 208012)
        self.assertEqual(count_books(Strand(list(range(24)))), 1)
        self.assertEqual(count_books(Strand([1] * 12 + [2] * 12)), 1)

    def test_14_and_15_unlike_pairs(self):
        kinds = [1, 2, 3, 1, 2, 3, 1, 2, 3, 1, 2, 3, 1, 2]
        self.assertEqual(sum(census(Strand(kinds)).values()), count_books(Strand(kinds)))
        self.assertEqual(Strand(kinds).unlike_pairs, 14)
        self.assertEqual(refusal(census, Strand(kinds + [3])), ("TooManyStretches", 15))
        self.assertIsNone(refusal(count_books, Strand(kinds + [3])))
        self.assertEqual(refusal(census, Strand([1, 2] * 12)), ("TooManyStretches", 24))
        self.assertEqual(sum(census(Strand([1, 2] * 7)).values()), 429)
        long = Strand([1, 2] * 6 + [1] * 6 + [2] * 6)
        self.assertEqual(long.unlike_pairs, 14)
        self.assertEqual(sum(census(long).values()), 429)

    def test_keys_ascend_and_sums_agree(self):
        for strand in random_strands(50, 13, [2, 3, 3, 4, 5]):
            found = census(strand)
            self.assertEqual(list(found), sorted(found))
            self.assertEqual(sum(found.values()), count_books(strand))
            self.assertTrue(all(many > 0 for many in found.values()))
            self.assertTrue(all(isinstance(pair, tuple) for pair in found))

    def test_turning_and_mirroring(self):
        for strand in random_strands(51, 24, [2, 3, 3, 4]):
            self.assertEqual(count_books(strand.turned(7)), count_books(strand))
            self.assertEqual(count_books(strand.mirrored()), count_books(strand))

    def test_new_each_time(self):
        census(STRAND).clear()
        self.assertEqual(census(STRAND), {(3, 2): 1, (4, 3): 1})


class Above(unittest.TestCase):
    """Point 50: `count_above`."""

    def test_examples(self):
        self.assertEqual(count_above(Book(STRAND, [[0, 4], [1], [2], [3]])), 2)
        self.assertEqual(count_above(Book(STRAND, [[0, 2, 4], [1], [3]])), 1)
        self.assertEqual(count_above(book=Book(Strand([1, 2, 1, 2]), [[0], [1], [2], [3]])), 2)
        self.assertEqual(count_above(Book(Strand([1, 2]), [[0], [1]])), 1)
        self.assertEqual(count_above(Book(Strand([1] * 24), [range(24)])), 1)

    def test_against_all_books(self):
        for strand in all_strands(range(2, 8), 3):
            good = good_books(strand.kinds)
            for parties in all_books(strand.kinds):
                above = [coarser for coarser in good if plain_coarser(coarser, parties)]
                self.assertEqual(count_above(Book(strand, parties)), len(above))

    def test_finest_book_of_24_beads(self):
        for strand in random_strands(52, 24, [1, 2, 3, 4, 24]):
            book = Book(strand, strand.stretches())
            self.assertEqual(count_above(book), count_books(strand))
            product = 1
            for gap in gaps(book):
                product *= count_books(Strand([strand.kinds[place] for place in gap]))
            self.assertEqual(count_above(book), product)


if __name__ == "__main__":
    unittest.main()
