import random
import unittest

from beadmoot.books import Book
from beadmoot.parties import book_of
from beadmoot.playing import book_numbers, play_book
from beadmoot.strands import Strand
from tests.helpers import all_books, all_orders, all_strands, book_by_walk, plain_good, refusal, walk

STRAND = Strand([1, 2, 1, 3, 1])


def lone_book(*kinds):
    return Book(Strand(kinds), [[bead] for bead in range(len(kinds))])


class Numbers(unittest.TestCase):
    """Point 33."""

    def test_examples(self):
        self.assertEqual(book_numbers(Book(STRAND, [[0, 2, 4], [1], [3]])), (2, 0, 0, 1))
        self.assertEqual(book_numbers(Book(STRAND, [[0, 4], [1], [2], [3]])), (1, 2, 0, 0))

    def test_edges(self):
        self.assertEqual(book_numbers(lone_book(1, 2)), (0, 0, 0, 0))
        for size in (2, 3, 24):
            self.assertEqual(book_numbers(Book(Strand([4] * size), [range(size)])), (0, 0, 0, 0))
        self.assertEqual(book_numbers(lone_book(*range(24))), (0, 22, 0, 0))

    def test_not_good(self):
        self.assertEqual(refusal(book_numbers, lone_book(1, 2, 1, 2)), ("NotGood", 0))
        book = Book(Strand([1, 3, 1, 2, 1, 2]), [[0, 2], [1], [3], [4], [5]])
        self.assertEqual(refusal(book_numbers, book), ("NotGood", 1))
        book = Book(Strand([1, 2, 1, 2, 1, 2, 1, 2]), [[0, 4], [1], [2], [3], [5], [6], [7]])
        self.assertEqual(refusal(book_numbers, book), ("NotGood", 0))

    def test_against_all_orders(self):
        for strand in all_strands(range(2, 8), 3):
            edges = {}
            others = {}
            for order in all_orders(strand.size):
                parties = book_by_walk(strand.kinds, order)
                marks = walk(strand.kinds, order)[0]
                edges.setdefault(parties, set()).add(marks.count("edge"))
                others.setdefault(parties, set()).add((marks.count("odd"), marks.count("strife")))
            for parties, found in edges.items():
                odd, strife, least, greatest = book_numbers(Book(strand, parties))
                self.assertEqual(found, set(range(least, greatest + 1)))
                self.assertEqual(others[parties], {(odd, strife)})


class Playing(unittest.TestCase):
    """Point 34."""

    def check(self, book, edges):
        order = play_book(book, edges=edges)
        self.assertIsInstance(order, list)
        self.assertEqual(sorted(order), list(range(1, book.strand.size - 1)))
        self.assertEqual(book_by_walk(book.strand.kinds, order), book.parties)
        wanted = book_numbers(book)[2] if edges is None else edges
        self.assertEqual(walk(book.strand.kinds, order)[0].count("edge"), wanted)
        self.assertEqual(play_book(book, edges=edges), order)

    def test_all_good_books(self):
        for strand in all_strands(range(2, 8), 3):
            for parties in all_books(strand.kinds):
                book = Book(strand, parties)
                if not plain_good(strand.kinds, parties):
                    self.assertEqual(refusal(play_book, book)[0], "NotGood")
                    continue
                _, _, least, greatest = book_numbers(book)
                for edges in (None, *range(least, greatest + 1)):
                    self.check(book, edges)
                for edges in (least - 1, greatest + 1, -10 ** 99):
                    self.assertEqual(refusal(play_book, book, edges=edges), ("OutOfReach", least, greatest))

    def test_24_beads(self):
        chance = random.Random(24)
        for variety in (1, 2, 2, 2, 3, 3, 4, 6, 24, 1000):
            for _ in range(4):
                strand = Strand([chance.randrange(variety) for _ in range(24)])
                book = book_of(strand, chance.sample(range(1, 23), 22))
                _, _, least, greatest = book_numbers(book)
                for edges in (None, *range(least, greatest + 1)):
                    self.check(book, edges)

    def test_blocks_of_alike_beads(self):
        for kinds in ([1] * 23 + [2], [1] * 12 + [2] * 12, [1, 2] * 12, [1] * 8 + [2] * 8 + [3] * 8,
                      [2] + [1] * 23, [1] * 11 + [2] + [1] * 12):
            strand = Strand(kinds)
            book = book_of(strand, list(range(1, 23)))
            _, _, least, greatest = book_numbers(book)
            for edges in range(least, greatest + 1):
                self.check(book, edges)

    def test_errors(self):
        self.assertEqual(refusal(play_book, lone_book(1, 2, 1, 2)), ("NotGood", 0))
        self.assertEqual(refusal(play_book, lone_book(1, 2, 1, 2), edges=99), ("NotGood", 0))
        book = Book(STRAND, [[0, 2, 4], [1], [3]])
        self.assertEqual(refusal(play_book, book, edges=2), ("OutOfReach", 0, 1))
        self.assertEqual(refusal(play_book, book, edges=-1), ("OutOfReach", 0, 1))
        self.assertEqual(refusal(play_book, lone_book(1, 2), edges=1), ("OutOfReach", 0, 0))

    def test_two_beads(self):
        self.assertEqual(play_book(lone_book(1, 2)), [])
        self.assertEqual(play_book(book=Book(Strand([1, 1]), [[0, 1]]), edges=0), [])

    def test_edges_by_name_only(self):
        with self.assertRaises(TypeError):
            play_book(lone_book(1, 2), 0)

    def test_the_order_is_new(self):
        book = Book(STRAND, [[0, 2, 4], [1], [3]])
        before = play_book(book)
        play_book(book).clear()
        self.assertEqual(play_book(book), before)


if __name__ == "__main__":
    unittest.main()
