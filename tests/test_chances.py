import unittest
from collections import Counter
from fractions import Fraction
from math import factorial

from beadmoot.chances import mean_tally, order_counts
from beadmoot.outcomes import Outcomes
from beadmoot.strands import Strand
from beadmoot.tallies import MARKS
from tests.helpers import all_orders, all_strands, random_strands, refusal, walked_outcomes

STRAND = Strand([1, 2, 1, 3, 1])


def fractions(pairs):
    return [Fraction(*pair) for pair in pairs]


def share_by_walk(size, i, k, j):
    """Return the share of all orders in which bead k is taken last between i and j, while i and j stand."""
    orders = all_orders(size)
    many = 0
    for order in orders:
        at = {bead: order.index(bead) if bead in order else size for bead in range(size)}
        between = [at[bead] for bead in range(i + 1, j)]
        many += at[k] == max(between) and at[k] < min(at[i], at[j])
    return Fraction(many, len(orders))


def share_of_point_56(size, i, j):
    d = j - i - 1
    inner = (i > 0) + (j < size - 1)
    return [Fraction(1, d), Fraction(1, d * (d + 1)), Fraction(2, d * (d + 1) * (d + 2))][inner]


class OrderCounts(unittest.TestCase):
    """Points 55 and 57."""

    def test_examples(self):
        self.assertEqual(order_counts(STRAND), {(3, 0): 2, (3, 1): 2, (4, 0): 2})
        self.assertEqual(order_counts(strand=Strand([1, 2])), {(2, 0): 1})
        self.assertEqual(order_counts(Strand([1, 1])), {(1, 0): 1})
        self.assertEqual(order_counts(Strand([5] * 12)), {(1, 0): factorial(10)})
        self.assertEqual(order_counts(Strand(list(range(12)))), {(12, 0): factorial(10)})

    def test_against_all_orders(self):
        for strand in all_strands(range(2, 8), 3) + all_strands([5, 6], 6):
            found = Counter()
            for outcome, many in walked_outcomes(strand.kinds).items():
                found[outcome[:2]] += many
            self.assertEqual(order_counts(strand), found)

    def test_eight_beads(self):
        for kinds in ((1, 2, 3, 1, 2, 1, 3, 2), (1, 1, 2, 2, 3, 3, 1, 2)):
            found = Counter()
            for outcome, many in walked_outcomes(kinds).items():
                found[outcome[:2]] += many
            self.assertEqual(order_counts(Strand(kinds)), found)

    def test_twelve_beads(self):
        for strand in random_strands(55, 12, [1, 2, 2, 3, 3, 4, 12]):
            found = order_counts(strand)
            self.assertEqual(list(found), sorted(found))
            self.assertEqual(sum(found.values()), factorial(10))
            self.assertTrue(all(many > 0 for many in found.values()))
            outcomes = Outcomes(strand)
            self.assertEqual(list(found), [(row[0], edges) for row in outcomes for edges in range(row[3], row[4] + 1)])

    def test_too_many_beads(self):
        for size in (13, 14, 24):
            self.assertEqual(refusal(order_counts, Strand([1, 2] * 12).turned(0) if size == 24 else
                                     Strand([1] * size)), ("TooManyBeads", size))
        self.assertIsNone(refusal(mean_tally, Strand([1] * 13)))

    def test_new_each_time(self):
        order_counts(STRAND).clear()
        self.assertEqual(order_counts(STRAND), {(3, 0): 2, (3, 1): 2, (4, 0): 2})


class MeanTally(unittest.TestCase):
    """Points 55, 56 and 57."""

    def test_examples(self):
        self.assertEqual(mean_tally(STRAND), ((1, 3), (5, 3), (1, 3), (2, 3)))
        self.assertEqual(mean_tally(strand=Strand([1, 2])), ((0, 1),) * 4)
        self.assertEqual(mean_tally(Strand([7] * 24)), ((22, 1), (0, 1), (0, 1), (0, 1)))
        self.assertEqual(mean_tally(Strand(list(range(24)))), ((0, 1), (0, 1), (0, 1), (22, 1)))

    def test_against_all_orders(self):
        for strand in all_strands(range(2, 8), 3) + all_strands([5, 6], 6):
            sums = Counter()
            total = 0
            for (_, edge, odd, strife, _), many in walked_outcomes(strand.kinds).items():
                total += many
                for mark, count in zip(MARKS, (strand.size - 2 - odd - edge - strife, odd, edge, strife)):
                    sums[mark] += many * count
            self.assertEqual(fractions(mean_tally(strand)), [Fraction(sums[mark], total) for mark in MARKS])

    def test_lowest_terms(self):
        for strand in all_strands([2, 6], 3) + random_strands(56, 24, [1, 2, 3, 4, 24]):
            means = mean_tally(strand)
            self.assertIsInstance(means, tuple)
            for pair in means:
                fraction = Fraction(*pair)
                self.assertEqual(pair, (fraction.numerator, fraction.denominator))
                self.assertIsInstance(pair, tuple)

    def test_with_the_counts_of_twelve_beads(self):
        for strand in random_strands(57, 12, [2, 3, 4]):
            counts = order_counts(strand)
            rows = {row[0]: row for row in Outcomes(strand)}
            total = factorial(10)
            edge = Fraction(sum(many * edges for (_, edges), many in counts.items()), total)
            odd = Fraction(sum(many * rows[parties][1] for (parties, _), many in counts.items()), total)
            strife = Fraction(sum(many * rows[parties][2] for (parties, _), many in counts.items()), total)
            self.assertEqual(fractions(mean_tally(strand)), [10 - edge - odd - strife, odd, edge, strife])

    def test_24_beads(self):
        for strand in random_strands(58, 24, [1, 2, 3, 4, 24]):
            means = fractions(mean_tally(strand))
            self.assertEqual(sum(means), 22)
            # Twice odd plus strife is the loss of unlike pairs of the row, the same in every order.
            lost = strand.unlike_pairs - 2 * strand.ends_unlike
            self.assertEqual(2 * means[1] + means[3], lost)
            self.assertEqual(mean_tally(strand.mirrored()), mean_tally(strand))

    def test_shares(self):
        for size in (3, 5, 7):
            for i in range(size):
                for j in range(i + 2, size):
                    for k in range(i + 1, j):
                        self.assertEqual(share_by_walk(size, i, k, j), share_of_point_56(size, i, j))

    def test_shares_of_24_beads(self):
        for strand in random_strands(59, 24, [3, 4]):
            sums = Counter()
            for i in range(24):
                for j in range(i + 2, 24):
                    for k in range(i + 1, j):
                        kinds = (strand.kinds[i], strand.kinds[k], strand.kinds[j])
                        mark = "strife" if len(set(kinds)) == 3 else "odd" if kinds[0] == kinds[2] else "edge"
                        sums["quiet" if len(set(kinds)) == 1 else mark] += share_of_point_56(24, i, j)
            self.assertEqual(fractions(mean_tally(strand)), [sums[mark] for mark in MARKS])


if __name__ == "__main__":
    unittest.main()
