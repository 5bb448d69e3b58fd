import unittest

from beadmoot.books import Book
from beadmoot.mending import joins_needed, mend
from beadmoot.strands import Strand
from tests.helpers import all_books, all_strands, plain_coarser, plain_gaps, plain_good


def lone_book(*kinds):
    return Book(Strand(kinds), [[bead] for bead in range(len(kinds))])


class Mending(unittest.TestCase):
    """Point 35."""

    def check(self, book):
        mended = mend(book)
        self.assertEqual(mended.strand.kinds, book.strand.kinds)
        self.assertTrue(plain_good(book.strand.kinds, mended.parties))
        self.assertTrue(plain_coarser(mended.parties, book.parties))
        self.assertEqual(mended.size, book.size - joins_needed(book))
        self.assertEqual(mend(book).parties, mended.parties)

    def test_good_books(self):
        for book in (lone_book(1, 2), lone_book(1, 2, 3), Book(Strand([1] * 24), [range(24)]),
                     Book(Strand([1, 2, 1, 3, 1]), [[0, 2, 4], [1], [3]])):
            self.assertEqual(joins_needed(book), 0)
            self.assertEqual(mend(book).parties, book.parties)

    def test_examples(self):
        self.assertEqual(joins_needed(lone_book(1, 2, 1, 2)), 1)
        self.assertIn(mend(lone_book(1, 2, 1, 2)).parties, (((0, 2), (1,), (3,)), ((0,), (1, 3), (2,))))
        self.assertEqual(joins_needed(lone_book(*[1, 2] * 12)), 11)
        self.check(lone_book(*[1, 2] * 12))

    def test_several_gaps(self):
        strand = Strand([1, 2, 1, 2, 1, 2, 1, 2])
        book = Book(strand, [[0, 4], [1], [2], [3], [5], [6], [7]])
        self.assertEqual(joins_needed(book), 2)
        self.check(book)
        strand = Strand([1, 2, 1, 2, 1, 3, 1, 3, 2, 3] + [2, 3] * 7)
        book = Book(strand, [[0, 4]] + [[bead] for bead in range(24) if bead not in (0, 4)])
        self.check(book)

    def test_against_all_coarser_good_books(self):
        for strand in all_strands(range(2, 8), 3):
            books = all_books(strand.kinds)
            good = [parties for parties in books if plain_good(strand.kinds, parties)]
            for parties in books:
                book = Book(strand, parties)
                most = max(len(other) for other in good if plain_coarser(other, parties))
                self.assertEqual(joins_needed(book), len(parties) - most)
                sizes = [len(gap) for gap in plain_gaps(strand.kinds, parties)
                         if len(gap) > 2 and len({strand.kinds[place] for place in gap}) == 2]
                self.assertEqual(joins_needed(book), sum(size // 2 - 1 for size in sizes))
                self.check(book)
                if parties in good:
                    self.assertEqual(mend(book).parties, parties)

    def test_the_book_is_not_changed(self):
        book = lone_book(1, 2, 1, 2)
        mend(book=book)
        self.assertEqual(book.parties, ((0,), (1,), (2,), (3,)))
        self.assertEqual(joins_needed(book=book), 1)


if __name__ == "__main__":
    unittest.main()
