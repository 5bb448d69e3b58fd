import random
import unittest

from beadmoot.orders import play
from beadmoot.rows import Row
from beadmoot.spans import least_total
from beadmoot.strands import Strand
from beadmoot.tallies import Prices
from beadmoot.thrift import first_totals, last_totals, losses, thrift_order
from beadmoot.tolls import least_toll
from tests.helpers import all_runs, all_strands, price_of, random_strands, toll_of, walked_orders

STRAND = Strand([1, 2, 1, 3, 1])
TOP = 10 ** 9
PRICES = (Prices(), Prices(quiet=3, odd=-2, edge=5, strife=-7), Prices(quiet=TOP, odd=-TOP, edge=TOP, strife=-TOP))


def least_by_walk(kinds):
    return min(marks.count("edge") + marks.count("strife") for _, marks in walked_orders(kinds))


def plain_losses(kinds, standing):
    """Return the losses by the words of point 59; the row is given by the numbers of its standing beads."""
    found = {}
    row = [kinds[bead] for bead in standing]
    for at in range(1, len(row) - 1):
        toll = toll_of(row, [at])
        found[standing[at]] = toll + least_by_walk(tuple(row[:at] + row[at + 1:])) - least_by_walk(tuple(row))
    return found


class Losses(unittest.TestCase):
    """Points 59 and 69."""

    def test_examples(self):
        self.assertEqual(losses(Row(STRAND)), {1: 0, 2: 2, 3: 0})
        self.assertEqual(losses(row=play(STRAND, [2])), {1: 0, 3: 0})
        self.assertEqual(losses(play(STRAND, [1, 3])), {2: 0})

    def test_rows_that_are_done(self):
        self.assertEqual(losses(Row(Strand([1, 2]))), {})
        self.assertEqual(losses(play(STRAND, [2, 1, 3])), {})

    def test_against_all_orders(self):
        for strand in all_strands([3, 5], 3) + all_strands([6], 2):
            for run in all_runs(strand.size)[::3]:
                row = play(strand, run)
                found = losses(row)
                self.assertEqual(list(found.items()), list(plain_losses(strand.kinds, row.standing).items()))
                self.assertLessEqual(set(found.values()), {0, 1, 2})
                self.assertEqual(0 in found.values(), not row.is_done())

    def test_takings_rounds_and_growths_behind_the_row(self):
        row = Row(Strand([1, 2, 1, 3, 1, 2]))
        row.take(2)
        row.grow(3)
        row.grow(1)
        row.take_round([1, 5])
        row.grow(2)
        kinds = [1, 2, 1, 3, 1, 2, 3, 1, 2]
        self.assertEqual(row.standing, [0, 3, 4, 6, 7, 8])
        self.assertEqual(losses(row), plain_losses(kinds, row.standing))

    def test_the_row_does_not_change(self):
        row = play(STRAND, [2])
        row.grow(2)
        before = (row.standing, row.taken, row.meetings(), row.tally().counts, row.grown().kinds)
        losses(row).clear()
        self.assertEqual((row.standing, row.taken, row.meetings(), row.tally().counts, row.grown().kinds), before)
        self.assertEqual(row.undo(), ("grow", 5))
        self.assertEqual(row.undo(), ("take", 2))

    def test_24_beads(self):
        chance = random.Random(59)
        for strand in random_strands(59, 24, [1, 2, 3, 24]):
            row = Row(strand)
            while not row.is_done():
                found = losses(row)
                self.assertEqual(list(found), row.standing[1:-1])
                self.assertLessEqual(set(found.values()), {0, 1, 2})
                self.assertIn(0, found.values())
                before = least_toll(row.rest())
                bead = chance.choice(list(found))
                toll = 1 if row.take(bead) in ("edge", "strife") else 0
                self.assertEqual(found[bead], toll + least_toll(row.rest()) - before)


class ThriftOrder(unittest.TestCase):
    """Points 60 and 69."""

    def test_examples(self):
        self.assertEqual(thrift_order(STRAND), [1, 3, 2])
        self.assertEqual(thrift_order(strand=Strand([1, 2])), [])
        self.assertEqual(thrift_order(Strand([4] * 24)), list(range(1, 23)))

    def test_against_all_orders(self):
        for strand in all_strands(range(2, 8), 3):
            least = least_by_walk(strand.kinds)
            best = min(order for order, marks in walked_orders(strand.kinds)
                       if marks.count("edge") + marks.count("strife") == least)
            self.assertEqual(thrift_order(strand), best)

    def test_24_beads(self):
        for strand in random_strands(60, 24, [1, 2, 3, 24]):
            order = thrift_order(strand)
            self.assertEqual(sorted(order), list(range(1, 23)))
            self.assertEqual(toll_of(strand.kinds, order), least_toll(strand))
            row = Row(strand)
            for bead in order[:6]:
                self.assertEqual(bead, min(bead for bead, loss in losses(row).items() if loss == 0))
                row.take(bead)

    def test_the_order_is_new(self):
        thrift_order(STRAND).clear()
        self.assertEqual(thrift_order(STRAND), [1, 3, 2])


class FirstAndLast(unittest.TestCase):
    """Point 61."""

    def test_examples(self):
        self.assertEqual(first_totals(STRAND, Prices()), {1: 0, 2: 2, 3: 0})
        self.assertEqual(last_totals(STRAND, Prices()), {1: 1, 2: 0, 3: 1})
        self.assertEqual(first_totals(strand=Strand([1, 2]), prices=Prices()), {})
        self.assertEqual(last_totals(strand=Strand([1, 2]), prices=Prices()), {})

    def test_against_all_orders(self):
        for strand in all_strands([2, 3, 4, 6], 3):
            for prices in PRICES:
                orders = [(order, price_of(prices, marks)) for order, marks in walked_orders(strand.kinds)]
                inner = range(1, strand.size - 1)
                first = {bead: min(price for order, price in orders if order[0] == bead) for bead in inner}
                last = {bead: min(price for order, price in orders if order[-1] == bead) for bead in inner}
                self.assertEqual(list(first_totals(strand, prices).items()), list(first.items()))
                self.assertEqual(list(last_totals(strand, prices).items()), list(last.items()))

    def test_24_beads(self):
        for strand in random_strands(61, 24, [1, 2, 3, 24]):
            for prices in PRICES:
                least = least_total(strand, prices)
                for found in (first_totals(strand, prices), last_totals(strand, prices)):
                    self.assertEqual(list(found), list(range(1, 23)))
                    self.assertEqual(min(found.values()), least)

    def test_new_each_time(self):
        first_totals(STRAND, Prices()).clear()
        last_totals(STRAND, Prices()).clear()
        self.assertEqual(first_totals(STRAND, Prices()), {1: 0, 2: 2, 3: 0})
        self.assertEqual(last_totals(STRAND, Prices()), {1: 1, 2: 0, 3: 1})


if __name__ == "__main__":
    unittest.main()
