import random
import unittest
from itertools import combinations, product

from beadmoot.purses import fewest_left, leave_curve, price_to_leave, run_to_leave, share_purse
from beadmoot.spans import floors, least_total
from beadmoot.strands import Strand
from beadmoot.tallies import Prices
from beadmoot.tolls import least_toll
from tests.helpers import all_strands, left_by, price_of, random_strands, refusal, toll_of, walk, walked_runs

STRAND = Strand([1, 2, 1, 3, 1])
TOP = 10 ** 9
PRICES = (Prices(), Prices().negated(), Prices(quiet=3, odd=-2, edge=5, strife=-7),
          Prices(quiet=TOP, odd=-TOP, edge=TOP, strife=-TOP), Prices(quiet=2, odd=1, edge=3, strife=4))


def stands_of(size):
    """Return all stands of a strand with this many beads."""
    return [[0, *inner, size - 1] for many in range(size - 1) for inner in combinations(range(1, size - 1), many)]


def walked_prices(strand, prices):
    """Return the least price of a run for each stand, all runs walked."""
    found = {}
    for run, marks in walked_runs(strand.kinds):
        stand = tuple(left_by(strand.size, run))
        price = price_of(prices, marks)
        found[stand] = min(price, found.get(stand, price))
    return found


def curve_by_walk(strand, prices):
    found = walked_prices(strand, prices)
    return [min(price for stand, price in found.items() if len(stand) == many) for many in range(2, strand.size + 1)]


class Stands(unittest.TestCase):
    """Point 62."""

    def check_run(self, strand, prices, beads):
        run = run_to_leave(strand, prices, beads)
        self.assertIsInstance(run, list)
        self.assertEqual(left_by(strand.size, run), beads)
        self.assertEqual(len(run) + len(beads), strand.size)
        self.assertEqual(price_of(prices, walk(strand.kinds, run)[0]), price_to_leave(strand, prices, beads))

    def test_examples(self):
        self.assertEqual(price_to_leave(STRAND, Prices(), [0, 3, 4]), 1)
        self.assertEqual(price_to_leave(STRAND, Prices(), [0, 2, 4]), 0)
        self.assertEqual(price_to_leave(strand=STRAND, prices=Prices(odd=-4), beads=(0, 2, 4)), -8)
        self.assertEqual(sorted(run_to_leave(strand=STRAND, prices=Prices(), beads=(0, 2, 4))), [1, 3])

    def test_all_beads_and_two_ends(self):
        for strand in all_strands([2, 5], 3) + random_strands(62, 24, [1, 3, 24]):
            whole = list(range(strand.size))
            for prices in PRICES:
                self.assertEqual(price_to_leave(strand, prices, whole), 0)
                self.assertEqual(run_to_leave(strand, prices, whole), [])
                ends = [0, strand.size - 1]
                self.assertEqual(price_to_leave(strand, prices, ends), least_total(strand, prices))
                self.check_run(strand, prices, ends)

    def test_against_all_runs(self):
        for strand in all_strands([2, 3, 4, 6], 3):
            for prices in PRICES:
                for stand, price in walked_prices(strand, prices).items():
                    self.assertEqual(price_to_leave(strand, prices, list(stand)), price)
                    self.check_run(strand, prices, list(stand))

    def test_24_beads(self):
        chance = random.Random(62)
        for strand in random_strands(62, 24, [2, 3, 4]):
            for prices in PRICES:
                table = floors(strand, prices)
                beads = [0, *sorted(chance.sample(range(1, 23), 6)), 23]
                self.assertEqual(price_to_leave(strand, prices, beads),
                                 sum(table[span] for span in zip(beads, beads[1:])))
                self.check_run(strand, prices, beads)

    def test_bad_lists(self):
        cases = (([], 0), ([1, 4], 0), ([4], 0), ([-1, 4], 0), ([0], 1), ([0, 0, 4], 1), ([0, 2, 2, 4], 2),
                 ([0, 3, 1, 4], 2), ([0, 5], 1), ([0, 4, 5], 2), ([0, 3], 2), ([0, 1, 2, 3], 4), ([0, -1, 4], 1),
                 ([0, 4, 4], 2), ([0, 2, 9, 4], 2), ([2, 1, 9], 0), ([0, 10 ** 99], 1), ([0] * 300, 1),
                 ([0, 1, 2, 3, 4, 3], 5))
        for beads, at in cases:
            for call in (price_to_leave, run_to_leave):
                self.assertEqual(refusal(call, STRAND, Prices(), beads), ("BadLeft", at), beads)
                self.assertEqual(refusal(call, STRAND, Prices(), tuple(beads)), ("BadLeft", at), beads)
        self.assertEqual(refusal(price_to_leave, Strand([1, 2]), Prices(), [0]), ("BadLeft", 1))

    def test_the_list_is_not_changed(self):
        beads = [0, 2, 4]
        run_to_leave(STRAND, Prices(), beads).clear()
        price_to_leave(STRAND, Prices(), beads)
        self.assertEqual(beads, [0, 2, 4])


class Curve(unittest.TestCase):
    """Point 63: `leave_curve`."""

    def test_examples(self):
        self.assertEqual(leave_curve(STRAND, Prices()), [0, 0, 0, 0])
        self.assertEqual(leave_curve(strand=Strand([1, 2]), prices=Prices()), [0])
        self.assertEqual(leave_curve(Strand([1, 2, 3]), Prices(strife=-TOP)), [-TOP, 0])
        self.assertEqual(leave_curve(Strand([1, 2, 3, 4]), Prices()), [2, 1, 0])

    def test_against_all_runs(self):
        for strand in all_strands([2, 3, 4, 6], 3) + all_strands([7], 3)[::12]:
            for prices in PRICES:
                self.assertEqual(leave_curve(strand, prices), curve_by_walk(strand, prices))

    def test_24_beads(self):
        chance = random.Random(63)
        for strand in random_strands(63, 24, [1, 2, 3, 24]):
            for prices in PRICES:
                curve = leave_curve(strand, prices)
                self.assertEqual(len(curve), 23)
                self.assertEqual(curve[-1], 0)
                self.assertEqual(curve[0], least_total(strand, prices))
                for _ in range(10):
                    beads = [0, *sorted(chance.sample(range(1, 23), chance.randrange(23))), 23]
                    self.assertLessEqual(curve[len(beads) - 2], price_to_leave(strand, prices, beads))

    def test_new_each_time(self):
        leave_curve(STRAND, Prices()).clear()
        self.assertEqual(leave_curve(STRAND, Prices()), [0, 0, 0, 0])


class Fewest(unittest.TestCase):
    """Point 63: `fewest_left`."""

    def check(self, strand, prices, curve, step=1):
        near = {price + beside for price in curve[::step] for beside in (-1, 0, 1)}
        for coins in near | {min(curve), min(curve) - 1, 10 ** 12, -10 ** 99, 10 ** 99}:
            payable = [at + 2 for at, price in enumerate(curve) if price <= coins]
            if not payable:
                self.assertEqual(refusal(fewest_left, strand, prices, coins), ("NotEnough", min(curve)))
                continue
            beads, run = fewest_left(strand, prices, coins)
            self.assertEqual(beads, min(payable))
            self.assertIsInstance(run, list)
            self.assertEqual(len(left_by(strand.size, run)), beads)
            self.assertEqual(len(run), strand.size - beads)
            self.assertLessEqual(price_of(prices, walk(strand.kinds, run)[0]), coins)

    def test_examples(self):
        strand = Strand([1, 2, 3, 4])
        self.assertEqual(fewest_left(strand, Prices(), 2)[0], 2)
        self.assertEqual(fewest_left(strand, Prices(), 1)[0], 3)
        self.assertEqual(fewest_left(strand=strand, prices=Prices(), coins=0), (4, []))
        self.assertEqual(refusal(fewest_left, strand, Prices(), -1), ("NotEnough", 0))
        self.assertEqual(fewest_left(Strand([1, 2]), Prices(), 0), (2, []))
        self.assertIsInstance(fewest_left(strand, Prices(), 1), tuple)

    def test_only_the_price_of_the_whole_run_counts(self):
        strand = Strand([1, 2, 3, 4, 1])
        prices = Prices(odd=-5, edge=9, strife=2)
        self.assertEqual(leave_curve(strand, prices), [-1, 4, 2, 0])
        self.assertEqual(fewest_left(strand, prices, -1)[0], 2)
        self.assertEqual(refusal(fewest_left, strand, prices, -2), ("NotEnough", -1))

    def test_against_all_runs(self):
        for strand in all_strands([2, 3, 4, 6], 3):
            for prices in PRICES:
                self.check(strand, prices, curve_by_walk(strand, prices))

    def test_24_beads(self):
        for strand in random_strands(64, 24, [1, 2, 3, 24]):
            for prices in PRICES[1:4]:
                self.check(strand, prices, leave_curve(strand, prices), step=9)


class Shared(unittest.TestCase):
    """Point 64."""

    def check(self, strands, prices, coins, beads):
        found, runs = share_purse(strands, prices, coins)
        self.assertEqual(found, beads)
        self.assertIsInstance(runs, list)
        self.assertEqual(len(runs), len(strands))
        price = 0
        left = 0
        for strand, run in zip(strands, runs):
            self.assertIsInstance(run, list)
            price += price_of(prices, walk(strand.kinds, run)[0])
            left += strand.size - len(run)
        self.assertEqual(left, beads)
        self.assertLessEqual(price, coins)

    def test_no_strands(self):
        self.assertEqual(share_purse([], Prices(), 0), (0, []))
        self.assertEqual(share_purse(strands=(), prices=Prices(), coins=10 ** 99), (0, []))
        self.assertEqual(refusal(share_purse, [], Prices(), -1), ("NotEnough", 0))

    def test_one_strand_is_fewest_left(self):
        for strand in all_strands([5], 3):
            for prices in PRICES:
                for coins in (-8, -1, 0, 1, 2, 9):
                    word = refusal(fewest_left, strand, prices, coins)
                    self.assertEqual(refusal(share_purse, [strand], prices, coins), word)
                    if word is None:
                        beads, run = fewest_left(strand, prices, coins)
                        self.assertEqual(share_purse([strand], prices, coins), (beads, [run]))

    def test_against_all_choices(self):
        chance = random.Random(64)
        pool = all_strands([2, 3, 4, 5, 6], 3)
        for _ in range(40):
            strands = chance.sample(pool, 3)
            prices = chance.choice(PRICES)
            curves = [curve_by_walk(strand, prices) for strand in strands]
            choices = [(sum(share[0] + 2 for share in shares), sum(share[1] for share in shares))
                       for shares in product(*[list(enumerate(curve)) for curve in curves])]
            least = min(price for _, price in choices)
            for coins in {price + step for _, price in choices for step in (-1, 0)}:
                payable = [beads for beads, price in choices if price <= coins]
                if payable:
                    self.check(strands, prices, coins, min(payable))
                else:
                    self.assertEqual(refusal(share_purse, strands, prices, coins), ("NotEnough", least))

    def test_just_enough_and_one_coin_fewer(self):
        strands = [Strand([1, 2, 3, 4]), Strand([1, 2, 1]), Strand([1, 2, 2, 1])]
        for coins, beads in ((4, 6), (3, 6), (2, 7), (1, 8), (0, 10)):
            self.check(strands, Prices(), coins, beads)
        self.assertEqual(refusal(share_purse, strands, Prices(), -1), ("NotEnough", 0))
        prices = Prices(odd=-3, edge=-1, strife=-1, quiet=-2)
        least = sum(min(leave_curve(strand, prices)) for strand in strands)
        self.check(strands, prices, least, 6)
        self.assertEqual(refusal(share_purse, strands, prices, least - 1), ("NotEnough", least))

    def test_twelve_strands_of_24_beads(self):
        strands = random_strands(64, 24, [2, 3, 4, 24] * 3)
        full = sum(least_toll(strand) for strand in strands)
        self.check(strands, Prices(), full, 24)
        beads = share_purse(strands, Prices(), full - 1)[0]
        self.check(strands, Prices(), full - 1, beads)
        self.assertGreater(beads, 24)
        # Clearing the strands of all kinds unlike is all that costs one coin for each bead.
        apart = [Strand(list(range(24))) for _ in range(12)]
        self.check(apart, Prices(), 22 * 12 - 1, 25)
        self.check(tuple(apart), Prices(), 100, 12 * 24 - 100)

    def test_the_list_is_not_changed(self):
        strands = [STRAND, Strand([1, 2])]
        share_purse(strands, Prices(), 5)[1].clear()
        self.assertEqual([strand.kinds for strand in strands], [(1, 2, 1, 3, 1), (1, 2)])


class Missing(unittest.TestCase):
    """Point 65."""

    def test_all_runs(self):
        for strand in all_strands(range(2, 8), 2):
            if strand.ends_unlike:
                continue
            for run, _ in walked_runs(strand.kinds):
                below = least_toll(strand) - toll_of(strand.kinds, run)
                if below >= 1:
                    self.assertGreaterEqual(strand.size - len(run), 4 * below)

    def test_24_beads(self):
        seen = 0
        for strand in random_strands(65, 23, [2] * 40):
            closed = Strand([*strand.kinds, strand.kinds[0]])
            least = least_toll(closed)
            for at, price in enumerate(leave_curve(closed, Prices())):
                if price < least:
                    seen += 1
                    self.assertGreaterEqual(at + 2, 4 * (least - price))
        self.assertGreater(seen, 0)


if __name__ == "__main__":
    unittest.main()
