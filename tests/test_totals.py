import unittest

from beadmoot.strands import Strand
from beadmoot.spans import greatest_total, least_total
from beadmoot.tallies import Prices
from beadmoot.totals import order_with_total, totals
from tests.helpers import all_strands, random_strands, refusal, walk, walked_outcomes

STRAND = Strand([1, 2, 1, 3, 1])
TOP = 10 ** 9
PRICES = (Prices(), Prices(quiet=3, odd=-2, edge=5, strife=-7), Prices(quiet=0, odd=0, edge=0, strife=0),
          Prices(quiet=TOP, odd=-TOP, edge=TOP, strife=-TOP), Prices(quiet=-1, odd=10, edge=100, strife=1000))


def price_of(prices, quiet, odd, edge, strife):
    return prices.quiet * quiet + prices.odd * odd + prices.edge * edge + prices.strife * strife


def walked_totals(strand, prices):
    """Return the prices of all orders, walked one by one."""
    found = set()
    for _, edge, odd, strife, _ in walked_outcomes(strand.kinds):
        found.add(price_of(prices, strand.size - 2 - odd - edge - strife, odd, edge, strife))
    return sorted(found)


class Totals(unittest.TestCase):
    """Point 49."""

    def check_order(self, strand, prices, total):
        order = order_with_total(strand, prices, total)
        self.assertIsInstance(order, list)
        self.assertEqual(sorted(order), list(range(1, strand.size - 1)))
        marks = walk(strand.kinds, order)[0]
        counts = [marks.count(word) for word in ("quiet", "odd", "edge", "strife")]
        self.assertEqual(price_of(prices, *counts), total)

    def check_gaps(self, strand, prices, found):
        for total in {other + step for other in found for step in (-1, 0, 1)} | {-10 ** 99, 10 ** 99}:
            below = max([other for other in found if other < total], default=None)
            above = min([other for other in found if other > total], default=None)
            expected = None if total in found else ("NoSuchTotal", below, above)
            self.assertEqual(refusal(order_with_total, strand, prices, total), expected)

    def test_examples(self):
        self.assertEqual(totals(STRAND, Prices()), [0, 1, 2])
        self.assertEqual(totals(strand=STRAND, prices=Prices(odd=1, edge=5, strife=0)), [1, 2, 7])
        self.assertEqual(refusal(order_with_total, STRAND, Prices(), 3), ("NoSuchTotal", 2, None))
        self.assertEqual(refusal(order_with_total, STRAND, Prices(), -1), ("NoSuchTotal", None, 0))
        prices = Prices(odd=1, edge=5, strife=0)
        self.assertEqual(refusal(order_with_total, strand=STRAND, prices=prices, total=4), ("NoSuchTotal", 2, 7))

    def test_two_beads_and_all_alike(self):
        for kinds in ([1, 2], [1, 1]):
            self.assertEqual(totals(Strand(kinds), Prices(quiet=7)), [0])
            self.assertEqual(order_with_total(Strand(kinds), Prices(quiet=7), 0), [])
            self.assertEqual(refusal(order_with_total, Strand(kinds), Prices(), 1), ("NoSuchTotal", 0, None))
        self.assertEqual(totals(Strand([4] * 24), Prices(quiet=-TOP)), [-22 * TOP])
        self.assertEqual(totals(Strand(list(range(24))), Prices(strife=TOP)), [22 * TOP])

    def test_against_all_orders(self):
        for strand in all_strands([2, 3, 5, 6], 3):
            for prices in PRICES:
                found = walked_totals(strand, prices)
                self.assertEqual(totals(strand, prices), found)
                for total in found:
                    self.check_order(strand, prices, total)
                self.check_gaps(strand, prices, found)

    def test_seven_beads(self):
        for strand in all_strands([7], 3)[::5]:
            for prices in PRICES:
                self.assertEqual(totals(strand, prices), walked_totals(strand, prices))

    def test_24_beads(self):
        for strand in random_strands(49, 24, [1, 2, 3, 4, 24]):
            for prices in PRICES:
                found = totals(strand, prices)
                self.assertEqual(found, sorted(set(found)))
                self.assertEqual(found[0], least_total(strand, prices))
                self.assertEqual(found[-1], greatest_total(strand, prices))
                for total in found[::9]:
                    self.check_order(strand, prices, total)

    def test_new_each_time(self):
        totals(STRAND, Prices()).clear()
        self.assertEqual(totals(STRAND, Prices()), [0, 1, 2])


if __name__ == "__main__":
    unittest.main()
