import random
import unittest

from beadmoot.outcomes import Outcomes, ring_rows
from beadmoot.parties import ring_book
from beadmoot.playing import book_numbers
from beadmoot.rings import ring_play
from beadmoot.strands import Strand
from tests.helpers import (all_ring_orders, all_strands, book_by_walk, good_books, lone_of, random_strands, refusal,
                           walk, walked_outcomes)

STRAND = Strand([1, 2, 1, 3, 1])
FAR = 10 ** 99


def possible(rows):
    """Return all outcomes of rows of outcomes."""
    return {(row[0], edges) for row in rows for edges in range(row[3], row[4] + 1)}


class Rows(unittest.TestCase):
    """Points 43, 44 and 48, and point 32."""

    def test_examples(self):
        self.assertEqual(Outcomes(STRAND).rows, ((3, 2, 0, 0, 1), (4, 1, 2, 0, 0)))
        self.assertEqual(Outcomes(strand=Strand([1, 2])).rows, ((2, 0, 0, 0, 0),))

    def test_edges(self):
        for size in (2, 3, 24):
            self.assertEqual(Outcomes(Strand([9] * size)).rows, ((1, 0, 0, 0, 0),))
        self.assertEqual(Outcomes(Strand(list(range(24)))).rows, ((24, 0, 22, 0, 0),))
        self.assertEqual(Outcomes(Strand([1] * 12 + [2] * 12)).rows, ((2, 0, 0, 2, 22),))
        self.assertEqual(Outcomes(Strand([1, 2] * 12)).rows, ((13, 11, 0, 1, 11),))

    def test_against_all_orders(self):
        for strand in all_strands(range(2, 8), 3) + all_strands([5, 6], 6):
            found = walked_outcomes(strand.kinds)
            outcomes = Outcomes(strand)
            self.assertEqual(possible(outcomes.rows), {outcome[:2] for outcome in found}, strand.kinds)
            others = {(outcome[0], outcome[2], outcome[3]) for outcome in found}
            self.assertEqual([row[:3] for row in outcomes.rows], sorted(others))

    def test_the_numbers_of_the_points(self):
        for strand in all_strands(range(2, 8), 3):
            most = {}
            for parties in good_books(strand.kinds):
                most[len(parties)] = max(most.get(len(parties), 0), lone_of(parties))
            w, u = strand.unlike_pairs, strand.ends_unlike
            rows = [(1, 0, 0, 0, 0)]
            if strand.variety > 1:
                rows = [(k, w - k + 1 - u, 2 * k - w - 2, k - 1 + u - lone, strand.size - 1 - k + u)
                        for k, lone in sorted(most.items())]
            self.assertEqual(Outcomes(strand).rows, tuple(rows))

    def test_greatest_number_of_parties(self):
        for strand in all_strands(range(2, 8), 4) + random_strands(43, 24, [1, 2, 3, 4, 8, 24]):
            rows = Outcomes(strand).rows
            w = strand.unlike_pairs
            self.assertEqual(rows[-1][0], {1: 1, 2: w // 2 + 1}.get(strand.variety, w))
            self.assertEqual([row[0] for row in rows], list(range(rows[0][0], rows[-1][0] + 1)))

    def test_random_orders_of_24_beads(self):
        chance = random.Random(44)
        for strand in random_strands(44, 24, [1, 2, 3, 4, 24]):
            outcomes = Outcomes(strand)
            for _ in range(30):
                order = chance.sample(range(1, 23), 22)
                marks = walk(strand.kinds, order)[0]
                parties = len(book_by_walk(strand.kinds, order))
                self.assertIn((parties, marks.count("edge")), outcomes)
                row = [row for row in outcomes.rows if row[0] == parties][0]
                self.assertEqual(row[1:3], (marks.count("odd"), marks.count("strife")))

    def test_attributes_iteration_and_membership(self):
        outcomes = Outcomes(STRAND)
        self.assertEqual(outcomes.strand.kinds, STRAND.kinds)
        self.assertIsInstance(outcomes.rows, tuple)
        self.assertTrue(all(isinstance(row, tuple) for row in outcomes.rows))
        self.assertEqual(list(outcomes), [(3, 2, 0, 0, 1), (4, 1, 2, 0, 0)])
        found = [(k, e) for k in range(-2, 8) for e in range(-2, 8) if (k, e) in outcomes]
        self.assertEqual(found, [(3, 0), (3, 1), (4, 0)])
        self.assertNotIn((FAR, FAR), outcomes)
        self.assertNotIn((3, -FAR), outcomes)


class Reasons(unittest.TestCase):
    """Point 45 and point 48."""

    def test_examples(self):
        outcomes = Outcomes(STRAND)
        self.assertEqual(outcomes.reason(5, 0), ("many parties", 4))
        self.assertEqual(outcomes.reason(3, 2), ("many edges", 1))

    def test_one_beside_and_far_out(self):
        outcomes = Outcomes(STRAND)
        cases = (
            ((2, 0), ("few parties", 3)), ((2, -1), ("few parties", 3)), ((-FAR, FAR), ("few parties", 3)),
            ((0, 0), ("few parties", 3)), ((5, 9), ("many parties", 4)), ((FAR, -1), ("many parties", 4)),
            ((3, -1), ("few edges", 0)), ((3, -FAR), ("few edges", 0)), ((4, -1), ("few edges", 0)),
            ((4, 1), ("many edges", 0)), ((3, FAR), ("many edges", 1)),
            ((3, 0), None), ((3, 1), None), ((4, 0), None),
        )
        for (parties, edges), reason in cases:
            self.assertEqual(outcomes.reason(parties, edges), reason)
            self.assertEqual(outcomes.reason(parties=parties, edges=edges), reason)
        self.assertEqual(Outcomes(Strand([1, 1, 2, 2])).reason(2, 1), ("few edges", 2))
        self.assertEqual(Outcomes(Strand([1, 1, 1])).reason(1, 1), ("many edges", 0))

    def test_all_reasons_of_small_strands(self):
        for strand in all_strands([2, 4, 6], 3):
            outcomes = Outcomes(strand)
            bounds = {row[0]: row[3:] for row in outcomes.rows}
            for parties in range(min(bounds) - 1, max(bounds) + 2):
                for edges in range(-1, strand.size):
                    reason = outcomes.reason(parties, edges)
                    self.assertEqual(reason is None, (parties, edges) in possible(outcomes.rows))
                    if parties in bounds and reason is not None:
                        self.assertEqual(reason[1], bounds[parties][0 if edges < bounds[parties][0] else 1])


class Orders(unittest.TestCase):
    """Point 46."""

    def check(self, strand):
        outcomes = Outcomes(strand)
        for parties, edges in possible(outcomes.rows):
            order = outcomes.order(parties, edges)
            self.assertIsInstance(order, list)
            self.assertEqual(sorted(order), list(range(1, strand.size - 1)))
            self.assertEqual(len(book_by_walk(strand.kinds, order)), parties)
            self.assertEqual(walk(strand.kinds, order)[0].count("edge"), edges)
            self.assertEqual(Outcomes(strand).order(parties, edges), order)
        self.check_refusals(outcomes)

    def check_refusals(self, outcomes):
        for parties, _, _, least, greatest in outcomes:
            self.assertEqual(refusal(outcomes.order, parties, least - 1), ("CannotBe", "few edges", least))
            self.assertEqual(refusal(outcomes.order, parties, greatest + 1), ("CannotBe", "many edges", greatest))
        fewest, most = outcomes.rows[0][0], outcomes.rows[-1][0]
        for call in (lambda parties: outcomes.order(parties, 0), outcomes.book):
            self.assertEqual(refusal(call, fewest - 1), ("CannotBe", "few parties", fewest))
            self.assertEqual(refusal(call, -FAR), ("CannotBe", "few parties", fewest))
            self.assertEqual(refusal(call, most + 1), ("CannotBe", "many parties", most))
            self.assertEqual(refusal(call, FAR), ("CannotBe", "many parties", most))

    def test_small_strands(self):
        for strand in all_strands(range(2, 8), 3):
            self.check(strand)

    def test_24_beads(self):
        special = [Strand(kinds) for kinds in ([1] * 24, [1, 2] * 12, [1, 2, 3] * 8, list(range(24)),
                                               [1] * 12 + [2] * 12, [1, 2, 1, 3] * 6, [1] * 23 + [2])]
        for strand in special + random_strands(46, 24, [2, 3, 4, 6]):
            self.check(strand)

    def test_errors(self):
        outcomes = Outcomes(STRAND)
        self.assertEqual(refusal(outcomes.order, 5, 0), ("CannotBe", "many parties", 4))
        self.assertEqual(refusal(outcomes.order, 2, FAR), ("CannotBe", "few parties", 3))
        self.assertEqual(refusal(outcomes.order, 3, 2), ("CannotBe", "many edges", 1))
        self.assertEqual(refusal(outcomes.order, parties=4, edges=-1), ("CannotBe", "few edges", 0))
        self.assertEqual(refusal(outcomes.book, parties=2), ("CannotBe", "few parties", 3))

    def test_the_order_is_new(self):
        outcomes = Outcomes(STRAND)
        before = outcomes.order(3, 1)
        outcomes.order(3, 1).clear()
        self.assertEqual(outcomes.order(3, 1), before)


class Books(unittest.TestCase):
    """Point 46: `book`."""

    def test_small_strands(self):
        for strand in all_strands(range(2, 8), 3):
            outcomes = Outcomes(strand)
            books = good_books(strand.kinds)
            for parties in {len(book) for book in books}:
                book = outcomes.book(parties)
                self.assertEqual(book.strand.kinds, strand.kinds)
                self.assertEqual(book.size, parties)
                self.assertIn(book.parties, books)
                self.assertEqual(book.lone, max(lone_of(other) for other in books if len(other) == parties))

    def test_24_beads(self):
        for strand in random_strands(47, 24, [1, 2, 3, 5, 24]):
            for parties, odd, strife, least, _ in Outcomes(strand):
                book = Outcomes(strand).book(parties)
                self.assertEqual(book.size, parties)
                self.assertEqual(book_numbers(book)[:3], (odd, strife, least))


class RingRows(unittest.TestCase):
    """Point 47, and points 32 and 33."""

    def test_examples(self):
        self.assertEqual(ring_rows(Strand([3] * 24)), [(1, 0, 0, 0, 0, 0)])
        self.assertEqual(ring_rows(Strand([3, 3])), [(1, 0, 0, 0, 0, 0)])
        self.assertEqual(ring_rows(strand=Strand([1, 2])), [(2, 1, 0, 0, 0, 0)])
        self.assertEqual(ring_rows(Strand([1, 2, 3])), [(3, 1, 0, 1, 0, 0)])
        self.assertEqual(ring_rows(STRAND), [(3, 0, 2, 0, 0, 1), (3, 1, 1, 0, 1, 2), (4, 0, 1, 2, 0, 0),
                                             (4, 1, 0, 2, 1, 1)])
        self.assertEqual(ring_rows(Strand(list(range(24)))), [(24, 1, 0, 22, 0, 0)])

    def test_against_all_orders_of_the_ring(self):
        for strand in all_strands(range(2, 7), 3) + all_strands([4, 5], 5):
            rows = ring_rows(strand)
            found = walked_outcomes(strand.kinds, closed=True)
            self.assertEqual([row[:4] for row in rows],
                             sorted({(k, u, odd, strife) for k, _, odd, strife, u in found}))
            outcomes = {(k, u, edges) for k, u, _, _, least, greatest in rows for edges in range(least, greatest + 1)}
            self.assertEqual(outcomes, {(k, u, edges) for k, edges, _, _, u in found}, strand.kinds)

    def test_seven_beads(self):
        for kinds in ([1, 2, 1, 3, 1, 2, 3], [1, 2, 1, 2, 1, 2, 2], [1, 1, 2, 3, 3, 2, 1]):
            found = set()
            for order in all_ring_orders(7)[::3]:
                marks = walk(kinds, order, closed=True)[0]
                u = ring_play(Strand(kinds), order).last_unlike()
                found.add((ring_book(Strand(kinds), order).size, u, marks.count("edge")))
            rows = ring_rows(Strand(kinds))
            self.assertEqual({(k, u, edges) for k, u, _, _, least, greatest in rows
                              for edges in range(least, greatest + 1)}, found)

    def test_rows_of_24_beads(self):
        for strand in random_strands(48, 24, [2, 3, 24]):
            rows = ring_rows(strand)
            self.assertEqual(rows, sorted(rows))
            outcomes = Outcomes(strand)
            self.assertEqual(len(rows), 2 * len(outcomes.rows) - (outcomes.rows[-1][0] == 24))
            own = [(k, odd, strife, least, greatest) for k, u, odd, strife, least, greatest in rows
                   if u == strand.ends_unlike]
            self.assertEqual(own, [row for row in outcomes if row[0] < 24 or strand.ends_unlike])


if __name__ == "__main__":
    unittest.main()
