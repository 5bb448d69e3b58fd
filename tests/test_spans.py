import random
import unittest
from itertools import permutations

from beadmoot.spans import check_floors, floors, greatest_total, least_order, least_total
from beadmoot.strands import Strand
from beadmoot.tallies import Prices
from tests.helpers import all_orders, all_strands, price_of, refusal, walk

STRAND = Strand([1, 2, 1, 3, 1])
PRICES = (Prices(), Prices().negated(), Prices(quiet=3, odd=-2, edge=5, strife=-7), Prices(edge=0, strife=0),
          Prices(quiet=10 ** 9, odd=-10 ** 9, edge=10 ** 9, strife=-10 ** 9))
EXAMPLE = {(0, 1): 0, (0, 2): 0, (0, 3): 1, (0, 4): 0, (1, 2): 0, (1, 3): 1, (1, 4): 1, (2, 3): 0, (2, 4): 0, (3, 4): 0}


def prices_of_span(strand, prices, i, j):
    """Return the prices of all ways to clear a span, walked one by one."""
    return {price_of(prices, walk(strand.kinds, run)[0]) for run in permutations(range(i + 1, j))}


class Floors(unittest.TestCase):
    """Points 36, 37 and 40."""

    def test_example(self):
        self.assertEqual(floors(STRAND, Prices()), EXAMPLE)
        self.assertEqual(floors(strand=STRAND, prices=Prices())[(0, 3)], 1)

    def test_two_beads(self):
        self.assertEqual(floors(Strand([1, 2]), Prices(edge=-5)), {(0, 1): 0})

    def test_keys_ascend(self):
        for size in (2, 5, 24):
            keys = list(floors(Strand([0] * size), Prices()))
            self.assertEqual(keys, [(i, j) for i in range(size) for j in range(i + 1, size)])

    def test_against_all_ways(self):
        for strand in all_strands([2, 3, 6], 3):
            for prices in PRICES:
                for (i, j), floor in floors(strand, prices).items():
                    self.assertEqual(floor, min(prices_of_span(strand, prices, i, j)))

    def test_new_each_time(self):
        floors(STRAND, Prices()).clear()
        self.assertEqual(floors(STRAND, Prices()), EXAMPLE)

    def test_meetings_clear_spans(self):
        for order in all_orders(6):
            for many in range(len(order) + 1):
                met = walk([1] * 6, order[:many])[1]
                gone = set(order[:many])
                cleared = [(i, j) for i in range(6) for j in range(i + 1, 6) if set(range(i + 1, j)) <= gone]
                met_now = {pair for pair in met if not set(pair) & gone}
                self.assertEqual(met_now, {pair for pair in cleared if not set(pair) & gone})


class Checking(unittest.TestCase):
    """Point 38."""

    def test_valid_tables(self):
        self.assertEqual(check_floors(STRAND, Prices(), EXAMPLE), 0)
        self.assertEqual(check_floors(strand=Strand([1, 2]), prices=Prices(), table={(0, 1): -7}), -7)
        self.assertEqual(check_floors(Strand([1, 2]), Prices(), {(0, 1): 0}), 0)
        for strand in all_strands([2, 5], 3):
            for prices in PRICES:
                self.assertEqual(check_floors(strand, prices, floors(strand, prices)), least_total(strand, prices))

    def test_lower_values_are_valid(self):
        table = dict.fromkeys(EXAMPLE, 0)
        table[(0, 4)] = -3
        self.assertEqual(check_floors(STRAND, Prices(), table), -3)

    def test_other_keys_are_ignored(self):
        table = {**EXAMPLE, (4, 4): 9, (1, 0): 9, (0, 5): 9, (-1, 2): 9}
        self.assertEqual(check_floors(STRAND, Prices(), table), 0)
        self.assertEqual(refusal(check_floors, STRAND, Prices(), {(1, 0): 0}), ("BadFloors", (0, 1)))

    def test_missing_spans(self):
        for missing in EXAMPLE:
            table = {span: value for span, value in EXAMPLE.items() if span != missing}
            self.assertEqual(refusal(check_floors, STRAND, Prices(), table), ("BadFloors", missing))
        table = {span: 9 for span in EXAMPLE if span not in ((1, 2), (0, 3))}
        self.assertEqual(refusal(check_floors, STRAND, Prices(), table), ("BadFloors", (0, 3)))
        self.assertEqual(refusal(check_floors, STRAND, Prices(), {}), ("BadFloors", (0, 1)))

    def test_too_great_values(self):
        cases = (({(0, 1): 1}, (0, 1)), ({(3, 4): 1}, (3, 4)), ({(0, 2): 1}, (0, 1, 2)), ({(0, 3): 2}, (0, 2, 3)),
                 ({(0, 4): 1}, (0, 2, 4)), ({(1, 4): 2}, (1, 2, 4)), ({(2, 4): 1, (2, 3): 1}, (2, 3)),
                 ({(0, 4): 1, (1, 4): 2}, (0, 2, 4)), ({(0, 3): -5}, (0, 3, 4)), ({(1, 2): 1, (0, 4): 9}, (0, 1, 4)),
                 ({(2, 3): 5, (2, 4): 5}, (2, 3)))
        for changes, where in cases:
            table = {**EXAMPLE, **changes}
            self.assertEqual(refusal(check_floors, STRAND, Prices(), table), ("BadFloors", where), changes)

    def test_every_value_raised_by_one(self):
        for strand in all_strands([5], 3):
            for prices in PRICES:
                table = floors(strand, prices)
                for span in table:
                    word = refusal(check_floors, strand, prices, {**table, span: table[span] + 1})
                    self.assertEqual(word[0], "BadFloors")
                    self.assertEqual((word[1][0], word[1][-1]), span)

    def test_a_shown_bound_holds(self):
        chance = random.Random(38)
        strand = Strand([1, 2, 3, 1, 2])
        spans = [(i, j) for i in range(5) for j in range(i + 1, 5)]
        least = min(prices_of_span(strand, Prices(), 0, 4))
        shown = 0
        for _ in range(3000):
            table = {span: chance.randrange(-1, 2) if span[1] > span[0] + 1 else 0 for span in spans}
            if refusal(check_floors, strand, Prices(), table) is None:
                shown += 1
                self.assertLessEqual(check_floors(strand, Prices(), table), least)
        self.assertGreater(shown, 0)

    def test_the_table_is_not_changed(self):
        table = dict(EXAMPLE)
        check_floors(STRAND, Prices(), table)
        self.assertEqual(list(table.items()), list(EXAMPLE.items()))


class Totals(unittest.TestCase):
    """Point 39."""

    def test_against_all_orders(self):
        for strand in all_strands([2, 3, 4, 6], 3):
            for prices in PRICES:
                found = prices_of_span(strand, prices, 0, strand.size - 1)
                self.assertEqual(least_total(strand, prices), min(found))
                self.assertEqual(greatest_total(strand, prices), max(found))
                order = least_order(strand, prices)
                self.assertIsInstance(order, list)
                self.assertEqual(sorted(order), list(range(1, strand.size - 1)))
                self.assertEqual(price_of(prices, walk(strand.kinds, order)[0]), min(found))

    def test_examples(self):
        self.assertEqual(least_total(STRAND, Prices()), 0)
        self.assertEqual(greatest_total(strand=STRAND, prices=Prices()), 2)
        self.assertEqual(least_order(Strand([1, 2]), Prices()), [])
        self.assertEqual(greatest_total(Strand([1, 2]), Prices()), 0)

    def test_24_beads(self):
        chance = random.Random(39)
        for variety in (1, 2, 3, 24):
            strand = Strand([chance.randrange(variety) for _ in range(24)])
            for prices in PRICES:
                order = least_order(strand, prices)
                self.assertEqual(sorted(order), list(range(1, 23)))
                least = least_total(strand, prices)
                self.assertEqual(price_of(prices, walk(strand.kinds, order)[0]), least)
                for _ in range(20):
                    other = price_of(prices, walk(strand.kinds, chance.sample(range(1, 23), 22))[0])
                    self.assertLessEqual(least, other)
                    self.assertLessEqual(other, greatest_total(strand, prices))

    def test_bounds_of_a_price(self):
        top = 10 ** 9
        strand = Strand([7] * 24)
        self.assertEqual(least_total(strand, Prices(quiet=-top)), -22 * top)
        self.assertEqual(greatest_total(strand, Prices(quiet=top)), 22 * top)


if __name__ == "__main__":
    unittest.main()
