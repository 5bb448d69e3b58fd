import random
import unittest

from beadmoot.books import Book
from beadmoot.census import count_books
from beadmoot.gaps import is_good
from beadmoot.numbering import book_at, number_of
from beadmoot.strands import Strand
from tests.helpers import all_strands, good_books, random_strands, refusal

STRAND = Strand([1, 2, 1, 3, 1])


class Numbering(unittest.TestCase):
    """Point 52."""

    def test_all_good_books_of_small_strands(self):
        for strand in all_strands(range(2, 8), 4):
            books = [book_at(strand, number) for number in range(count_books(strand))]
            self.assertEqual(sorted(book.parties for book in books), sorted(good_books(strand.kinds)))
            for number, book in enumerate(books):
                self.assertEqual(book.strand.kinds, strand.kinds)
                self.assertEqual(number_of(book), number)
                self.assertEqual(number_of(Book(Strand(strand.kinds), list(book.parties)[::-1])), number)

    def test_twelve_beads(self):
        for kinds in ([1, 2] * 6, [1, 2, 3] * 4, [1, 1, 2, 1, 3, 2, 1, 2, 2, 3, 1, 1]):
            strand = Strand(kinds)
            many = count_books(strand)
            found = {book_at(strand, number).parties for number in range(many)}
            self.assertEqual(len(found), many)
            for number in range(many):
                book = book_at(strand=Strand(kinds), number=number)
                self.assertTrue(is_good(book))
                self.assertEqual(number_of(book), number)

    def test_24_beads(self):
        chance = random.Random(52)
        special = [Strand(kinds) for kinds in ([1, 2] * 12, [1, 2, 1, 3] * 6, [1, 2, 3] * 8, [5] * 24)]
        for strand in special + random_strands(52, 24, [2, 3, 4, 24]):
            many = count_books(strand)
            for number in {0, many - 1, *(chance.randrange(many) for _ in range(20))}:
                book = book_at(strand, number)
                self.assertTrue(is_good(book))
                self.assertEqual(number_of(book), number)

    def test_beyond_the_numbers(self):
        for strand in all_strands([2, 3, 6], 3) + random_strands(53, 24, [1, 2, 3]):
            many = count_books(strand)
            self.assertIsNone(refusal(book_at, strand, 0))
            self.assertIsNone(refusal(book_at, strand, many - 1))
            for number in (-1, many, many + 1, -10 ** 99, 10 ** 99):
                self.assertEqual(refusal(book_at, strand, number), ("NoSuchNumber", number, many))

    def test_not_good(self):
        lone = Book(Strand([1, 2, 1, 2]), [[0], [1], [2], [3]])
        self.assertEqual(refusal(number_of, lone), ("NotGood", 0))
        book = Book(Strand([1, 3, 1, 2, 1, 2]), [[0, 2], [1], [3], [4], [5]])
        self.assertEqual(refusal(number_of, book=book), ("NotGood", 1))

    def test_equal_strands(self):
        for number in range(2):
            self.assertEqual(book_at(STRAND, number).parties, book_at(Strand((1, 2, 1, 3, 1)), number).parties)


if __name__ == "__main__":
    unittest.main()
