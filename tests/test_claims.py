import random
import unittest
from itertools import permutations

from beadmoot.claims import claim_for, judge, least_claim
from beadmoot.logs import Log, log_of
from beadmoot.outcomes import Outcomes
from beadmoot.ranges import ranges
from beadmoot.spans import floors, least_order, least_total
from beadmoot.strands import Strand
from beadmoot.tallies import Prices
from tests.helpers import (all_orders, all_strands, book_by_walk, good_books, price_of, random_strands, refusal, walk,
                           walked_orders)

STRAND = Strand([1, 2, 1, 3, 1])
TOP = 10 ** 9
PRICES = (Prices(), Prices().negated(), Prices(quiet=3, odd=-2, edge=5, strife=-7),
          Prices(quiet=TOP, odd=-TOP, edge=TOP, strife=-TOP))
# Lists that are no orders of the example strand.
NO_ORDERS = ([], [1, 2], [1, 2, 2], [0, 1, 2], [1, 2, 4], [1, 2, 3, 3], [1, 2, 3, 4], [1, 2, -3], [9, 9, 9], [3])


def changed(table, span, value):
    """Return a copy of a table with another value for a span, or without the span if the value is None."""
    copy = {key: table[key] for key in table if key != span}
    if value is not None:
        copy[span] = value
    return copy


class Forms(unittest.TestCase):
    """Point 95: what is a claim."""

    def test_bad_claims(self):
        table, order = ranges(STRAND), [1, 3, 2]
        log = log_of(STRAND, order)
        full = [("can", 3, 0, order), ("book", [[0, 2, 4], [1], [3]], order), ("cannot", 5, 0, table),
                ("least", Prices(), 0, order, floors(STRAND, Prices())), ("fits", log)]
        for claim in full:
            self.assertIs(judge(STRAND, claim), True)
            self.assertEqual(refusal(judge, STRAND, claim[:-1]), ("BadClaim",))
            self.assertEqual(refusal(judge, STRAND, claim + (0,)), ("BadClaim",))
            self.assertEqual(refusal(judge, STRAND, claim[:1]), ("BadClaim",))
            self.assertEqual(refusal(judge, STRAND, claim[1:]), ("BadClaim",))
            self.assertEqual(refusal(judge, STRAND, (claim[0].upper(),) + claim[1:]), ("BadClaim",))
            for other in full:
                if len(other) != len(claim):
                    self.assertEqual(refusal(judge, STRAND, (other[0],) + claim[1:]), ("BadClaim",))
        for claim in ((), ("",), ("may", 3, 0, order), ("cans", 3, 0, order), (5,), (None, 3, 0, order)):
            self.assertEqual(refusal(judge, strand=STRAND, claim=claim), ("BadClaim",))


class Can(unittest.TestCase):
    """Point 95: "can"."""

    def test_all_orders(self):
        for strand in all_strands([2, 3, 4, 5], 3):
            for order, marks in walked_orders(strand.kinds):
                outcome = (len(book_by_walk(strand.kinds, order)), marks.count("edge"))
                for parties in range(7):
                    for edges in range(-1, 5):
                        wanted = (parties, edges) == outcome
                        self.assertIs(judge(strand, ("can", parties, edges, order)), wanted)

    def test_lists_that_are_no_orders(self):
        for order in NO_ORDERS:
            for parties in range(6):
                self.assertIs(judge(STRAND, ("can", parties, 0, order)), False)
        self.assertIs(judge(STRAND, ("can", 3, 0, (1, 3, 2))), True)
        self.assertIs(judge(Strand([1, 2]), ("can", 2, 0, [])), True)


class Books(unittest.TestCase):
    """Point 95: "book"."""

    def test_all_orders_and_good_books(self):
        for strand in all_strands([2, 4, 5], 3):
            for order in all_orders(strand.size):
                own = book_by_walk(strand.kinds, order)
                for parties in good_books(strand.kinds):
                    self.assertIs(judge(strand, ("book", parties, order)), parties == own)

    def test_any_order_of_parties_and_beads(self):
        for parties in permutations([[0, 2, 4], [1], [3]]):
            for first in permutations([0, 2, 4]):
                listed = [list(first) if len(party) == 3 else party for party in parties]
                self.assertIs(judge(STRAND, ("book", listed, [1, 3, 2])), True)
                self.assertIs(judge(STRAND, ("book", listed, [2, 1, 3])), False)

    def test_lists_that_are_no_books(self):
        for parties in ([], [[0, 2, 4], [1]], [[0, 2, 4], [1], [3], []], [[0, 2, 4], [1], [3], [3]], [[0, 1, 2, 3, 4]],
                        [[0], [1], [2], [3], [4]], [[0, 2, 4], [1, 3]], [[0, 2, 4], [1], [3, 5]], [[0, 2, 4], [1], [-2]],
                        [[0, 2, 4, 4], [1], [3]]):
            self.assertIs(judge(STRAND, ("book", parties, [1, 3, 2])), False, parties)
        self.assertIs(judge(Strand([1, 2, 1, 2]), ("book", [[0], [1], [2], [3]], [1, 2])), False)

    def test_lists_that_are_no_orders(self):
        for order in NO_ORDERS:
            self.assertIs(judge(STRAND, ("book", [[0, 2, 4], [1], [3]], order)), False)
            self.assertIs(judge(STRAND, ("book", [[0, 4], [1], [2], [3]], order)), False)


class Cannot(unittest.TestCase):
    """Point 95: "cannot"."""

    def test_the_own_ranges_show_all_that_is_not_possible(self):
        for strand in all_strands([2, 3, 4, 5, 6], 3):
            table = ranges(strand)
            outcomes = {(len(book_by_walk(strand.kinds, order)), marks.count("edge"))
                        for order, marks in walked_orders(strand.kinds)}
            for parties in range(-1, 9):
                for edges in range(-1, 6):
                    claim = ("cannot", parties, edges, table)
                    self.assertIs(judge(strand, claim), (parties, edges) not in outcomes)

    def test_one_wrong_value(self):
        table = ranges(STRAND)
        self.assertIs(judge(STRAND, ("cannot", 5, 0, table)), True)
        for span in table:
            # An empty value covers nothing, although every span can be cleared.
            for value in (None, ()):
                self.assertIs(judge(STRAND, ("cannot", 5, 0, changed(table, span, value))), False, span)
        whole = changed(table, (0, 4), ((0, 0, 1), (2, 0, 0), (4, 7, 8)))
        self.assertIs(judge(STRAND, ("cannot", 5, 0, whole)), True)
        self.assertIs(judge(STRAND, ("cannot", 5, 7, whole)), False)
        self.assertIs(judge(STRAND, ("cannot", 3, 2, changed(table, (0, 4), ((0, 0, 2), (2, 0, 0))))), False)
        self.assertIs(judge(STRAND, ("cannot", 3, 2, changed(table, (0, 4), ((0, 0, 0), (2, 0, 0))))), False)

    def test_keys_that_are_no_spans(self):
        table = ranges(STRAND)
        table[(4, 0)] = ()
        table[(0, 9)] = ((5, 5, 5),)
        self.assertIs(judge(STRAND, ("cannot", 5, 0, table)), True)
        self.assertIs(judge(STRAND, ("cannot", 5, 0, {})), False)


class Least(unittest.TestCase):
    """Point 95: "least"."""

    def test_all_orders(self):
        for strand in all_strands([3, 4, 5], 3):
            for prices in PRICES[:3]:
                table = floors(strand, prices)
                least = min(price_of(prices, marks) for _, marks in walked_orders(strand.kinds))
                for order, marks in walked_orders(strand.kinds):
                    total = price_of(prices, marks)
                    for told in (total, least):
                        wanted = total == least == told
                        self.assertIs(judge(strand, ("least", prices, told, order, table)), wanted)

    def test_one_wrong_value(self):
        order = [1, 3, 2]
        table = floors(STRAND, Prices())
        self.assertIs(judge(STRAND, ("least", Prices(), 0, order, table)), True)
        for span in table:
            for value in (None, table[span] + 1, table[span] + 10 ** 20):
                claim = ("least", Prices(), 0, order, changed(table, span, value))
                self.assertIs(judge(STRAND, claim), False, (span, value))
        # A lower value within is no fault, but it does not show as much.
        self.assertIs(judge(STRAND, ("least", Prices(), 0, order, changed(table, (1, 3), -1))), False)
        self.assertIs(judge(STRAND, ("least", Prices(), 0, order, changed(table, (0, 4), -1))), False)
        self.assertIs(judge(STRAND, ("least", Prices(), -1, order, changed(table, (0, 4), -1))), False)

    def test_other_papers(self):
        table = floors(STRAND, Prices())
        for order in NO_ORDERS:
            self.assertIs(judge(STRAND, ("least", Prices(), 0, order, table)), False)
        self.assertIs(judge(STRAND, ("least", Prices(), 1, [1, 2, 3], table)), False)
        self.assertIs(judge(STRAND, ("least", Prices(), 0, [1, 2, 3], table)), False)
        self.assertIs(judge(STRAND, ("least", Prices(edge=2), 0, [1, 3, 2], table)), True)
        self.assertIs(judge(STRAND, ("least", Prices(odd=1), 0, [1, 3, 2], table)), False)
        self.assertIs(judge(STRAND, ("least", Prices(), 0, [1, 3, 2], {})), False)


class Fits(unittest.TestCase):
    """Point 95: "fits"."""

    def test_examples(self):
        log = log_of(STRAND, [1, 3, 2])
        self.assertIs(judge(STRAND, ("fits", log)), True)
        self.assertIs(judge(Strand([5, 1, 5, 1, 5]), ("fits", log)), True)
        self.assertIs(judge(Strand([5, 1, 5, 5, 5]), ("fits", log)), False)
        self.assertIs(judge(Strand([5, 1, 5]), ("fits", log)), False)
        self.assertIs(judge(Strand([1, 2]), ("fits", Log([], ends_alike=True))), False)


class Made(unittest.TestCase):
    """Point 96."""

    def test_claims_about_all_outcomes(self):
        for strand in all_strands([2, 3, 4, 5, 6], 3):
            outcomes = {(len(book_by_walk(strand.kinds, order)), marks.count("edge"))
                        for order, marks in walked_orders(strand.kinds)}
            for parties in range(0, 8):
                for edges in range(-1, 6):
                    self.check(strand, parties, edges, (parties, edges) in outcomes)

    def check(self, strand, parties, edges, can):
        claim = claim_for(strand, parties, edges)
        self.assertIsInstance(claim, tuple)
        self.assertEqual(claim[:3], ("can" if can else "cannot", parties, edges))
        self.assertIsInstance(claim[3], list if can else dict)
        self.assertIs(judge(strand, claim), True)

    def test_claims_about_24_beads(self):
        for strand in random_strands(96, 24, [1, 2, 3, 24]):
            outcomes = Outcomes(strand)
            for parties in (outcomes.rows[0][0], outcomes.rows[-1][0], outcomes.rows[-1][0] + 1, 10 ** 99, -1):
                for edges in (-1, 0, 5, 11, 22):
                    self.check(strand, parties, edges, (parties, edges) in outcomes)

    def test_least_claims(self):
        for strand in all_strands([2, 3, 4, 5], 3) + random_strands(95, 24, [1, 2, 3, 24]):
            for prices in PRICES:
                claim = least_claim(strand=strand, prices=prices)
                self.assertIsInstance(claim, tuple)
                word, told, total, order, table = claim
                self.assertEqual((word, total), ("least", least_total(strand, prices)))
                self.assertEqual([told(mark) for mark in ("quiet", "odd", "edge", "strife")],
                                 [prices(mark) for mark in ("quiet", "odd", "edge", "strife")])
                self.assertEqual(price_of(prices, walk(strand.kinds, order)[0]), total)
                self.assertIs(judge(strand, claim), True)
                self.assertEqual(list(table), sorted(table))

    def test_the_papers_are_new(self):
        least_claim(STRAND, Prices())[4].clear()
        least_claim(STRAND, Prices())[3].clear()
        claim_for(STRAND, 5, 0)[3].clear()
        claim_for(STRAND, 4, 0)[3].clear()
        for claim in (least_claim(STRAND, Prices()), claim_for(STRAND, 5, 0), claim_for(strand=STRAND, parties=4, edges=0)):
            self.assertIs(judge(STRAND, claim), True)

    def test_the_papers_are_not_changed(self):
        table, order = floors(STRAND, Prices()), least_order(STRAND, Prices())
        judge(STRAND, ("least", Prices(), 0, order, table))
        self.assertEqual((table, order), (floors(STRAND, Prices()), least_order(STRAND, Prices())))

    def test_random_tables_never_show_what_is_not_so(self):
        chance = random.Random(97)
        shown = 0
        for strand in random_strands(97, 6, [2, 3, 4] * 40):
            outcomes = Outcomes(strand)
            table = ranges(strand)
            for span in chance.sample(sorted(table), 2):
                entries = [(s + chance.choice([0, 0, 1]), low - chance.choice([0, 1]), high + chance.choice([-1, 0, 0, 1]))
                           for s, low, high in table[span]]
                table[span] = tuple(entries)
            for parties in range(8):
                for edges in range(6):
                    if judge(strand, ("cannot", parties, edges, table)):
                        shown += 1
                        self.assertNotIn((parties, edges), outcomes)
        self.assertGreater(shown, 0)


if __name__ == "__main__":
    unittest.main()
