import unittest

from beadmoot.orders import play, tally_of
from beadmoot.parties import book_of, ended_parties, parties_by, parties_so_far, ring_book
from beadmoot.rings import ring_play
from beadmoot.rows import Row
from beadmoot.strands import Strand
from tests.helpers import (all_books, all_orders, all_ring_orders, all_strands, book_by_walk, groups_by, plain_good,
                           refusal, walk)

STRAND = Strand([1, 2, 1, 3, 1])


class Connecting(unittest.TestCase):
    """Point 30."""

    def test_parties_by(self):
        self.assertEqual(parties_by(STRAND, []), [(0,), (1,), (2,), (3,), (4,)])
        self.assertEqual(parties_by(STRAND, [(4, 2), (0, 1), (3, 3)]), [(0,), (1,), (2, 4), (3,)])
        self.assertEqual(parties_by(STRAND, [(4, 2), (2, 0)]), [(0, 2, 4), (1,), (3,)])
        self.assertEqual(parties_by(strand=STRAND, pairs=([4, 0], (1, 3))), [(0, 4), (1,), (2,), (3,)])

    def test_crossing_groups_are_no_error(self):
        self.assertEqual(parties_by(Strand([1, 2, 1, 2]), [(0, 2), (1, 3)]), [(0, 2), (1, 3)])

    def test_no_such_bead(self):
        self.assertEqual(refusal(parties_by, STRAND, [(0, 1), (5, -1)]), ("NoSuchBead", 5))
        self.assertEqual(refusal(parties_by, STRAND, [(0, -1), (5, 0)]), ("NoSuchBead", -1))
        self.assertEqual(refusal(parties_by, STRAND, [(1, 0), (1, 10 ** 99)]), ("NoSuchBead", 10 ** 99))

    def test_300_pairs(self):
        strand = Strand([1] * 24)
        pairs = [(bead * 7 % 24, bead * 5 % 24) for bead in range(300)]
        self.assertEqual(parties_by(strand, pairs), groups_by(strand.kinds, pairs))

    def test_so_far(self):
        row = Row(STRAND)
        self.assertEqual(parties_so_far(row), [(0,), (1,), (2,), (3,), (4,)])
        row.take(1)
        self.assertEqual(parties_so_far(row), [(0, 2), (1,), (3,), (4,)])
        row.grow(1)
        self.assertEqual(parties_so_far(row), [(0, 2), (1,), (3,), (4, 5)])
        self.assertEqual(ended_parties(row), [(1,)])

    def test_ends_only_by_their_own_meeting(self):
        row = play(Strand([1, 2, 3, 1]), [1])
        self.assertEqual(parties_so_far(row), [(0,), (1,), (2,), (3,)])
        row.take(2)
        self.assertEqual(parties_so_far(row), [(0, 3), (1,), (2,)])
        self.assertEqual(parties_so_far(Row(Strand([1, 1]))), [(0, 1)])

    def test_all_runs(self):
        for strand in all_strands(range(2, 7), 3):
            for order in all_orders(strand.size)[::2]:
                for many in range(len(order) + 1):
                    row = play(strand, order[:many])
                    groups = groups_by(strand.kinds, walk(strand.kinds, order[:many])[1])
                    ended = [group for group in groups if set(group) <= set(order[:many])]
                    self.assertEqual(parties_so_far(row), groups)
                    self.assertEqual(ended_parties(row), ended)
                    self.assertEqual(len(ended), row.tally().ended())

    def test_the_row_is_not_changed(self):
        row = play(STRAND, [2])
        parties_so_far(row)
        ended_parties(row)
        self.assertEqual((row.taken, row.undo(), row.taken), ([2], ("take", 2), []))


class BooksOfOrders(unittest.TestCase):
    """Point 31."""

    def test_examples(self):
        self.assertEqual(book_of(STRAND, [1, 3, 2]).parties, ((0, 2, 4), (1,), (3,)))
        self.assertEqual(book_of(strand=STRAND, order=(2, 1, 3)).parties, ((0, 4), (1,), (2,), (3,)))
        self.assertEqual(book_of(Strand([1, 2]), []).parties, ((0,), (1,)))
        self.assertEqual(book_of(STRAND, [1, 3, 2]).strand.kinds, STRAND.kinds)

    def test_bad_orders(self):
        for order, at in (([1, 3], 2), ([], 0), ([1, 1], 1), ([0, 1, 2], 0), ([1, 2, 3, 4], 3), ([3, 2, 5], 2)):
            self.assertEqual(refusal(book_of, STRAND, order), ("BadRun", at))

    def test_the_books_of_all_orders_are_the_good_books(self):
        for strand in all_strands(range(2, 8), 3):
            found = set()
            for order in all_orders(strand.size):
                parties = book_of(strand, order).parties
                self.assertEqual(parties, book_by_walk(strand.kinds, order))
                found.add(parties)
            good = [parties for parties in all_books(strand.kinds) if plain_good(strand.kinds, parties)]
            self.assertEqual(sorted(found), sorted(good))

    def test_rings(self):
        strand = Strand([1, 2, 1, 3])
        self.assertEqual(ring_book(strand, [3, 1]).parties, ((0, 2), (1,), (3,)))
        self.assertEqual(ring_book(strand=strand, order=(0, 2)).parties, ((0,), (1,), (2,), (3,)))
        self.assertEqual(ring_book(Strand([1, 1]), []).parties, ((0, 1),))

    def test_bad_ring_orders(self):
        strand = Strand([1, 2, 1, 3])
        for order, at in (([], 0), ([1], 1), ([1, 1], 1), ([4], 0), ([-1], 0), ([1, 2, 3], 2), ([1, 2, 2], 2)):
            self.assertEqual(refusal(ring_book, strand, order), ("BadRun", at))

    def test_all_ring_orders(self):
        for strand in all_strands(range(2, 7), 3)[::2]:
            found = set()
            for order in all_ring_orders(strand.size):
                parties = ring_book(strand, order).parties
                self.assertEqual(parties, book_by_walk(strand.kinds, order, closed=True))
                found.add(parties)
            good = [parties for parties in all_books(strand.kinds) if plain_good(strand.kinds, parties)]
            self.assertEqual(sorted(found), sorted(good))


class Numbers(unittest.TestCase):
    """Point 32."""

    def test_rows(self):
        for strand in all_strands(range(2, 8), 3)[::2]:
            for order in all_orders(strand.size)[::3]:
                many = book_of(strand, order).size
                tally = tally_of(strand, order)
                self.assertEqual(tally.odd, strand.unlike_pairs - many + 1 - strand.ends_unlike)
                self.assertEqual(tally.strife, 2 * many - strand.unlike_pairs - 2)

    def test_rings(self):
        for strand in all_strands(range(2, 7), 3)[::2]:
            for order in all_ring_orders(strand.size)[::3]:
                many = ring_book(strand, order).size
                ring = ring_play(strand, order)
                tally = ring.tally()
                self.assertEqual(tally.odd, strand.unlike_pairs - many + 1 - ring.last_unlike())
                self.assertEqual(tally.strife, 2 * many - strand.unlike_pairs - 2)


if __name__ == "__main__":
    unittest.main()
