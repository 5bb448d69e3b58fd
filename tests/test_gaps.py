import unittest

from beadmoot.books import Book
from beadmoot.gaps import gaps, is_good, narrow_gaps, parties_round
from beadmoot.strands import Strand
from tests.helpers import all_books, all_strands, plain_gaps, plain_good

STRAND = Strand([1, 2, 1, 3, 1])


def lone_book(*kinds):
    return Book(Strand(kinds), [[bead] for bead in range(len(kinds))])


class Gaps(unittest.TestCase):
    """Points 27 and 29."""

    def test_examples(self):
        self.assertEqual(gaps(Book(STRAND, [[0, 2, 4], [1], [3]])), [(0, 1), (2, 3)])
        self.assertEqual(gaps(Book(STRAND, [[0, 4], [1], [2], [3]])), [(0, 1, 2, 3)])

    def test_few_beads(self):
        self.assertEqual(gaps(lone_book(1, 2)), [(0, 1)])
        self.assertEqual(gaps(lone_book(1, 2, 3)), [(0, 1, 2)])
        self.assertEqual(gaps(Book(Strand([1, 1]), [[0, 1]])), [])
        self.assertEqual(gaps(Book(Strand([1] * 24), [range(24)])), [])

    def test_interlocked(self):
        strand = Strand([1, 2, 1, 2, 1, 2])
        self.assertEqual(gaps(Book(strand, [[0, 4], [1, 3], [2], [5]])), [(0, 3), (1, 2), (4, 5)])
        self.assertEqual(gaps(Book(strand, [[0], [1, 5], [2], [3], [4]])), [(0, 5), (1, 2, 3, 4)])

    def test_all_books(self):
        for strand in all_strands(range(2, 7), 3):
            for parties in all_books(strand.kinds):
                book = Book(strand, parties)
                found = gaps(book)
                self.assertEqual(found, plain_gaps(strand.kinds, parties))
                self.assertEqual(len(found), strand.unlike_pairs + 1 - book.size)
                self.assertEqual(found, sorted(found))

    def test_the_list_is_new(self):
        book = lone_book(1, 2, 3)
        gaps(book).clear()
        self.assertEqual(gaps(book), [(0, 1, 2)])


class Round(unittest.TestCase):
    """Points 28 and 29."""

    def test_parties_round(self):
        self.assertEqual(parties_round(Book(STRAND, [[0, 2, 4], [1], [3]])), [(0, 1), (0, 2)])
        self.assertEqual(parties_round(Book(STRAND, [[0, 4], [1], [2], [3]])), [(0, 1, 2, 3)])
        self.assertEqual(parties_round(lone_book(1, 2)), [(0, 1)])
        self.assertEqual(parties_round(Book(Strand([1, 1]), [[0, 1]])), [])

    def test_narrow(self):
        self.assertEqual(narrow_gaps(lone_book(1, 2, 1, 2)), [0])
        self.assertIs(is_good(lone_book(1, 2, 1, 2)), False)
        self.assertEqual(narrow_gaps(lone_book(1, 2)), [])
        self.assertEqual(narrow_gaps(lone_book(1, 2, 3)), [])
        self.assertIs(is_good(lone_book(1, 2, 3)), True)
        self.assertIs(is_good(Book(STRAND, [[0, 2, 4], [1], [3]])), True)
        self.assertIs(is_good(Book(STRAND, [[0, 4], [1], [2], [3]])), True)

    def test_only_the_kinds_round_the_gap_count(self):
        strand = Strand([1, 2, 1, 2, 1, 3])
        self.assertEqual(narrow_gaps(Book(strand, [[0, 4], [1], [2], [3], [5]])), [0])
        strand = Strand([3, 1, 3, 1, 2, 1, 2])
        self.assertEqual(narrow_gaps(Book(strand, [[0], [1, 3], [2], [4], [5], [6]])), [])
        strand = Strand([1, 3, 1, 2, 1, 2])
        self.assertEqual(narrow_gaps(Book(strand, [[0, 2], [1], [3], [4], [5]])), [1])

    def test_all_books(self):
        for strand in all_strands(range(2, 7), 3):
            for parties in all_books(strand.kinds):
                book = Book(strand, parties)
                around = parties_round(book)
                narrow = []
                for index, gap in enumerate(gaps(book)):
                    self.assertEqual(around[index], tuple(book.party_of(place) for place in gap))
                    self.assertEqual(len(set(around[index])), len(gap))
                    kinds = [strand.kinds[place] for place in gap]
                    self.assertTrue(all(a != b for a, b in zip(kinds, kinds[1:] + kinds[:1])))
                    if len(gap) > 2 and len(set(kinds)) == 2:
                        narrow.append(index)
                self.assertEqual(narrow_gaps(book), narrow)
                self.assertIs(is_good(book), plain_good(strand.kinds, parties))


if __name__ == "__main__":
    unittest.main()
