import unittest

from beadmoot.books import Book, is_coarser
from beadmoot.strands import Strand
from tests.helpers import all_books, all_groupings, all_strands, broken_rule, plain_coarser, refusal

STRAND = Strand([1, 2, 1, 3, 1])


class Rules(unittest.TestCase):
    """Point 24."""

    def test_example(self):
        self.assertEqual(refusal(Book, Strand([1, 2, 1, 2]), [[0, 2], [1, 3]]), ("BadBook", 3, (0, 1, 2, 3)))

    def test_listing(self):
        cases = ([], [[]], [[0, 2, 4], [1]], [[0, 2, 4], [1], [3], []], [[0, 2, 4], [1], [3], [1]],
                 [[0, 2, 4, 4], [1], [3]], [[0, 2, 4], [1], [5]], [[0, 2, 4], [1], [3], [5]],
                 [[0, 2, 4], [1], [-2]], [[0, 2, -1], [1], [3]], [[0, 2, 4], [1, 1], [3]], [[10 ** 99]],
                 [[]] * 300, [[0] * 300] * 300)
        for parties in cases:
            self.assertEqual(refusal(Book, STRAND, parties), ("BadBook", 0, ()))

    def test_listing_comes_first(self):
        self.assertEqual(refusal(Book, STRAND, [[0, 1], [2, 3], [4], [4]]), ("BadBook", 0, ()))

    def test_unlike_beads(self):
        self.assertEqual(refusal(Book, Strand([1, 2]), [[1, 0]]), ("BadBook", 1, (0, 1)))
        self.assertEqual(refusal(Book, STRAND, [[0, 2, 4], [3, 1]]), ("BadBook", 1, (1, 3)))
        self.assertEqual(refusal(Book, STRAND, [[3, 1], [4, 2, 0]]), ("BadBook", 1, (1, 3)))
        self.assertEqual(refusal(Book, STRAND, [[4, 3, 2, 1, 0]]), ("BadBook", 1, (0, 1)))
        self.assertEqual(refusal(Book, STRAND, [[0, 4, 3], [2, 1]]), ("BadBook", 1, (0, 3)))

    def test_parted_neighbours(self):
        self.assertEqual(refusal(Book, Strand([1, 1, 2]), [[0], [1], [2]]), ("BadBook", 2, (0, 1)))
        self.assertEqual(refusal(Book, STRAND, [[0], [1], [2, 4], [3]]), ("BadBook", 2, (4, 0)))
        self.assertEqual(refusal(Book, Strand([5, 5]), [[1], [0]]), ("BadBook", 2, (0, 1)))
        self.assertEqual(refusal(Book, Strand([1, 2, 2, 1]), [[0], [1], [2], [3]]), ("BadBook", 2, (1, 2)))

    def test_crossing(self):
        strand = Strand([1, 2, 1, 2, 1, 2])
        self.assertEqual(refusal(Book, strand, [[5, 1], [0, 4], [2], [3]]), ("BadBook", 3, (0, 1, 4, 5)))
        self.assertEqual(refusal(Book, strand, [[0, 2, 4], [1, 3, 5]]), ("BadBook", 3, (0, 1, 2, 3)))
        self.assertEqual(refusal(Book, strand, [[0], [4, 2], [1], [5, 3]]), ("BadBook", 3, (2, 3, 4, 5)))
        self.assertIsNone(refusal(Book, strand, [[0, 4], [1, 3], [2], [5]]))

    def test_all_groupings(self):
        for strand in all_strands(range(2, 7), 3):
            for parties in all_groupings(strand.size):
                broken = broken_rule(strand.kinds, parties)
                wanted = None if broken is None else ("BadBook", *broken)
                self.assertEqual(refusal(Book, strand, parties), wanted, (strand.kinds, parties))

    def test_24_beads(self):
        strand = Strand([1, 2] * 12)
        self.assertEqual(Book(strand, [[bead] for bead in range(24)]).size, 24)
        crossed = [[bead] for bead in range(20)] + [[20, 22], [21, 23]]
        self.assertEqual(refusal(Book, strand, crossed), ("BadBook", 3, (20, 21, 22, 23)))


class Attributes(unittest.TestCase):
    """Point 25."""

    def test_order_of_parties(self):
        book = Book(strand=STRAND, parties=((3,), [4, 0, 2], (1,)))
        self.assertEqual(book.parties, ((0, 2, 4), (1,), (3,)))
        self.assertEqual((book.size, book.lone), (3, 2))
        self.assertEqual(book.strand.kinds, (1, 2, 1, 3, 1))
        self.assertEqual(list(book), [(0, 2, 4), (1,), (3,)])

    def test_all_alike(self):
        book = Book(Strand([1] * 24), [list(range(23, -1, -1))])
        self.assertEqual((book.parties, book.size, book.lone), ((tuple(range(24)),), 1, 0))

    def test_lists_are_copied(self):
        parties = [[4, 0, 2], [3], [1]]
        book = Book(STRAND, parties)
        self.assertEqual(parties, [[4, 0, 2], [3], [1]])
        parties[0].append(1)
        parties.pop()
        self.assertEqual(book.parties, ((0, 2, 4), (1,), (3,)))

    def test_party_of(self):
        book = Book(STRAND, [[0, 4], [1], [2], [3]])
        self.assertEqual([book.party_of(bead) for bead in range(5)], [0, 1, 2, 3, 0])
        self.assertEqual(book.party_of(bead=4), 0)
        for bead in (-1, 5, 10 ** 99):
            self.assertEqual(refusal(book.party_of, bead), ("NoSuchBead", bead))

    def test_contains(self):
        book = Book(STRAND, [[0, 2, 4], [1], [3]])
        for pair in ((0, 4), (4, 2), (1, 1)):
            self.assertIs(pair in book, True, pair)
        for pair in ((1, 3), (0, 1), (-1, 0), (0, -1), (5, 5), (0, 5), (5, 0), (-1, -1), (10 ** 99, 0)):
            self.assertIs(pair in book, False, pair)


class Joining(unittest.TestCase):
    """Point 26."""

    def test_joined(self):
        book = Book(STRAND, [[0, 4], [1], [2], [3]])
        self.assertEqual(book.joined(2, 4).parties, ((0, 2, 4), (1,), (3,)))
        self.assertEqual(book.joined(a=0, b=2).parties, ((0, 2, 4), (1,), (3,)))
        self.assertEqual(book.joined(0, 4).parties, book.parties)
        self.assertEqual(book.joined(1, 1).parties, book.parties)
        self.assertEqual(book.parties, ((0, 4), (1,), (2,), (3,)))

    def test_no_such_bead(self):
        book = Book(STRAND, [[0, 2, 4], [1], [3]])
        self.assertEqual(refusal(book.joined, -1, 5), ("NoSuchBead", -1))
        self.assertEqual(refusal(book.joined, 0, 5), ("NoSuchBead", 5))
        self.assertEqual(refusal(book.joined, 7, 0), ("NoSuchBead", 7))

    def test_not_a_book(self):
        book = Book(STRAND, [[0, 2, 4], [1], [3]])
        self.assertEqual(refusal(book.joined, 3, 4), ("BadBook", 1, (0, 3)))
        book = Book(Strand([1, 2, 1, 2]), [[0, 2], [1], [3]])
        self.assertEqual(refusal(book.joined, 3, 1), ("BadBook", 3, (0, 1, 2, 3)))

    def test_all_joins_and_common_parts(self):
        for strand in all_strands(range(2, 7), 2):
            books = [Book(strand, parties) for parties in all_books(strand.kinds)]
            for book in books:
                for other in books:
                    parts = [tuple(sorted(set(a) & set(b))) for a in book.parties for b in other.parties]
                    wanted = tuple(sorted(part for part in parts if part))
                    self.assertEqual(book.common(other).parties, wanted)
                    self.assertIs(is_coarser(book, other), plain_coarser(book.parties, other.parties))
                self.check_joins(book)

    def check_joins(self, book):
        size = book.strand.size
        for a in range(size):
            for b in range(size):
                touched = [party for party in book.parties if a in party or b in party]
                rest = [party for party in book.parties if party not in touched]
                merged = tuple(sorted([tuple(sorted(sum(touched, ()))), *rest]))
                broken = broken_rule(book.strand.kinds, merged)
                if broken is None:
                    self.assertEqual(book.joined(a, b).parties, merged)
                else:
                    self.assertEqual(refusal(book.joined, a, b), ("BadBook", *broken))

    def test_other_strand(self):
        book = Book(Strand([1, 2]), [[0], [1]])
        self.assertEqual(refusal(book.common, Book(Strand([1, 3]), [[0], [1]])), ("OtherStrand",))
        self.assertEqual(refusal(book.common, Book(Strand([1, 2, 2]), [[0], [1, 2]])), ("OtherStrand",))
        self.assertEqual(book.common(other=Book(Strand([1, 2]), [[0], [1]])).parties, ((0,), (1,)))

    def test_coarser(self):
        coarse = Book(STRAND, [[0, 2, 4], [1], [3]])
        fine = Book(STRAND, [[0, 4], [1], [2], [3]])
        self.assertIs(is_coarser(coarse, fine), True)
        self.assertIs(is_coarser(book=fine, other=coarse), False)
        self.assertIs(is_coarser(fine, fine), True)
        same = Book(Strand((1, 2, 1, 3, 1)), fine.parties)
        self.assertIs(is_coarser(coarse, same), True)
        self.assertIs(is_coarser(coarse, Book(Strand([1, 2, 1, 4, 1]), fine.parties)), False)


if __name__ == "__main__":
    unittest.main()
