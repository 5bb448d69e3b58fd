import unittest
from itertools import product

from beadmoot.tallies import MARKS, Prices, Tally, mark_of, tally_sum
from tests.helpers import plain_mark, refusal


class Marks(unittest.TestCase):
    """Point 9."""

    def test_order(self):
        self.assertEqual(MARKS, ("quiet", "odd", "edge", "strife"))

    def test_examples(self):
        self.assertEqual(mark_of(2, 1, 3), "strife")
        self.assertEqual(mark_of(1, 1, 1), "quiet")
        self.assertEqual(mark_of(1, 2, 1), "odd")
        self.assertEqual(mark_of(1, 1, 2), "edge")
        self.assertEqual(mark_of(2, 1, 1), "edge")
        self.assertEqual(mark_of(left=0, bead=999, right=0), "odd")

    def test_all_cases(self):
        for left, bead, right in product(range(4), repeat=3):
            self.assertEqual(mark_of(left, bead, right), plain_mark(left, bead, right))


class Tallies(unittest.TestCase):
    """Point 10."""

    def test_attributes(self):
        tally = Tally(1, 2, 3, 4)
        self.assertEqual((tally.quiet, tally.odd, tally.edge, tally.strife), (1, 2, 3, 4))
        self.assertEqual(tally.counts, (1, 2, 3, 4))
        self.assertEqual(Tally().counts, (0, 0, 0, 0))
        self.assertEqual(Tally(strife=4, edge=3, odd=2, quiet=1).counts, (1, 2, 3, 4))
        self.assertEqual(list(Tally(1, 2, 3, 4)), [1, 2, 3, 4])

    def test_numbers(self):
        tally = Tally(1, 10, 100, 1000)
        self.assertEqual(tally.takings(), 1111)
        self.assertEqual(tally.toll(), 1100)
        self.assertEqual(tally.ended(), 1010)
        self.assertEqual(tally.lost(), 1020)

    def test_negative_counts_are_kept(self):
        tally = Tally(-1, -2, 3, -10 ** 99)
        self.assertEqual(tally.counts, (-1, -2, 3, -10 ** 99))
        self.assertEqual(tally.lost(), -4 - 10 ** 99)

    def test_sum_of_two(self):
        first = Tally(1, 2, 3, 4)
        second = Tally(10, -20, 30, 40)
        self.assertEqual((first + second).counts, (11, -18, 33, 44))
        self.assertEqual((first.counts, second.counts), ((1, 2, 3, 4), (10, -20, 30, 40)))

    def test_sum_of_many(self):
        self.assertEqual(tally_sum().counts, (0, 0, 0, 0))
        self.assertEqual(tally_sum(Tally(1, 2, 3, 4)).counts, (1, 2, 3, 4))
        self.assertEqual(tally_sum(Tally(1), Tally(0, 2), Tally(0, 0, 3), Tally(4, 4, 4, 4)).counts, (5, 6, 7, 4))


class PricesOfMarks(unittest.TestCase):
    """Point 11."""

    def prices(self, prices):
        return prices.quiet, prices.odd, prices.edge, prices.strife

    def test_tolls_are_the_default(self):
        self.assertEqual(self.prices(Prices()), (0, 0, 1, 1))

    def test_attributes(self):
        prices = Prices(quiet=1, odd=-2, edge=3, strife=-4)
        self.assertEqual(self.prices(prices), (1, -2, 3, -4))
        self.assertEqual([prices(mark) for mark in MARKS], [1, -2, 3, -4])
        self.assertEqual(prices(mark="odd"), -2)

    def test_only_by_name(self):
        with self.assertRaises(TypeError):
            Prices(1)

    def test_bounds(self):
        top = 10 ** 9
        self.assertEqual(self.prices(Prices(quiet=top, odd=-top, edge=top, strife=-top)), (top, -top, top, -top))
        for mark in MARKS:
            for price in (top + 1, -top - 1, 10 ** 99):
                self.assertEqual(refusal(Prices, **{mark: price}), ("BadPrice", mark))

    def test_first_bad_price(self):
        top = 10 ** 9 + 1
        self.assertEqual(refusal(Prices, strife=top, edge=-top, odd=top, quiet=top), ("BadPrice", "quiet"))
        self.assertEqual(refusal(Prices, strife=top, edge=-top, odd=top), ("BadPrice", "odd"))
        self.assertEqual(refusal(Prices, strife=top, edge=-top), ("BadPrice", "edge"))

    def test_bad_mark(self):
        for word in ("", "Quiet", "left", "quiet ", "odd\n", "total"):
            self.assertEqual(refusal(Prices(), word), ("BadMark", word))

    def test_total(self):
        self.assertEqual(Prices(quiet=2).total(Tally(1, 4, 2, 1)), 5)
        self.assertEqual(Prices(quiet=1, odd=10, edge=100, strife=1000).total(tally=Tally(4, 3, -2, 1)), 834)

    def test_negated(self):
        prices = Prices(quiet=10 ** 9, odd=-10 ** 9, edge=5, strife=0)
        self.assertEqual(self.prices(prices.negated()), (-10 ** 9, 10 ** 9, -5, 0))
        self.assertEqual(self.prices(prices), (10 ** 9, -10 ** 9, 5, 0))


if __name__ == "__main__":
    unittest.main()
