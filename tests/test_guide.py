import random
import unittest
from itertools import permutations

from beadmoot.guide import certain, guide, keepers, still
from beadmoot.orders import play
from beadmoot.outcomes import Outcomes
from beadmoot.rows import Row
from beadmoot.strands import Strand
from tests.helpers import all_runs, all_strands, book_by_walk, random_strands, refusal, walk, walked_orders

EXAMPLE = Strand([1, 2, 1, 3, 1])


def ends_of(row):
    """Return a dict: each outcome that can still come, with the first beads of the ways to it; all orders walked."""
    kinds = row.grown().kinds
    done = row.taken
    found = {}
    for more in permutations(row.standing[1:-1]):
        order = [*done, *more]
        outcome = (len(book_by_walk(kinds, order)), walk(kinds, order)[0].count("edge"))
        found.setdefault(outcome, set()).update(more[:1])
    return found


def mixed_rows(seed, many):
    """Return rows with takings, rounds, growths and takings taken back behind them, of at most seven beads."""
    chance = random.Random(seed)
    rows = []
    while len(rows) < many:
        row = Row(Strand([chance.randrange(3) for _ in range(chance.randrange(2, 6))]))
        for _ in range(chance.randrange(1, 7)):
            inner = row.standing[1:-1]
            deed = chance.choice(["take", "round", "grow", "undo"])
            if deed == "take" and inner:
                row.take(chance.choice(inner))
            elif deed == "round":
                row.take_round(inner[chance.randrange(2)::2])
            elif deed == "grow" and row.grown().size < 7:
                row.grow(chance.randrange(3))
            elif deed == "undo" and row.taken:
                row.undo()
        rows.append(row)
    return rows


class Still(unittest.TestCase):
    """Point 84."""

    def check(self, row):
        outcomes = sorted(ends_of(row))
        found = still(row)
        self.assertIsInstance(found, list)
        self.assertEqual(found, sorted(found))
        listed = [(parties, edges) for parties, low, high in found for edges in range(low, high + 1)]
        self.assertEqual(listed, outcomes)

    def test_examples(self):
        row = Row(EXAMPLE)
        self.assertEqual(still(row), [(3, 0, 1), (4, 0, 0)])
        row.take(2)
        self.assertEqual(still(row=row), [(4, 0, 0)])

    def test_a_new_row_has_the_outcomes_of_the_strand(self):
        for strand in all_strands([2, 3, 5], 3) + random_strands(84, 24, [1, 2, 3, 24]):
            wanted = [(parties, low, high) for parties, _, _, low, high in Outcomes(strand)]
            self.assertEqual(still(Row(strand)), wanted)

    def test_a_row_that_is_done_has_one_outcome(self):
        for strand in all_strands([2, 3, 5], 3):
            for order, marks in walked_orders(strand.kinds):
                parties = len(book_by_walk(strand.kinds, order))
                edges = marks.count("edge")
                self.assertEqual(still(play(strand, order)), [(parties, edges, edges)])

    def test_all_runs(self):
        for strand in all_strands([4, 5, 6], 3):
            for run in all_runs(strand.size)[::1 if strand.size < 6 else 5]:
                self.check(play(strand, run))

    def test_rounds_and_growths(self):
        for row in mixed_rows(84, 150):
            self.check(row)

    def test_growing_opens_it_again(self):
        row = play(Strand([1, 2, 1]), [1])
        self.assertEqual(still(row), [(2, 0, 0)])
        row.grow(3)
        self.check(row)
        row.undo()
        self.assertEqual(still(row), [(2, 0, 0)])


class Keepers(unittest.TestCase):
    """Point 85: `keepers`."""

    def check(self, row):
        found = ends_of(row)
        for parties in range(0, 8):
            for edges in range(-1, 6):
                wanted = sorted(found.get((parties, edges), []))
                self.assertEqual(keepers(row, parties, edges), wanted)

    def test_examples(self):
        row = Row(EXAMPLE)
        self.assertEqual(keepers(row, 4, 0), [2])
        self.assertEqual(keepers(row=row, parties=3, edges=0), [1, 3])
        self.assertEqual(keepers(row, 5, 0), [])
        self.assertEqual(keepers(row, 10 ** 99, -10 ** 99), [])
        row.take(1)
        self.assertEqual(keepers(row, 4, 0), [])

    def test_done(self):
        self.assertEqual(keepers(play(EXAMPLE, [2, 1, 3]), 4, 0), [])
        self.assertEqual(keepers(Row(Strand([1, 2])), 2, 0), [])

    def test_all_runs(self):
        for strand in all_strands([4, 5], 3) + all_strands([6], 3)[::9]:
            for run in all_runs(strand.size)[::1 if strand.size < 6 else 4]:
                self.check(play(strand, run))

    def test_rounds_and_growths(self):
        for row in mixed_rows(85, 60):
            self.check(row)

    def test_never_empty_while_the_outcome_can_come(self):
        for strand in random_strands(85, 12, [2, 3, 12]):
            row = Row(strand)
            parties, _, _, low, high = Outcomes(strand).rows[-1]
            while not row.is_done():
                beads = keepers(row, parties, (low + high) // 2)
                self.assertTrue(beads)
                row.take(beads[len(beads) // 2])
            self.assertEqual(still(row), [(parties, (low + high) // 2, (low + high) // 2)])


class Guides(unittest.TestCase):
    """Point 85: `guide`."""

    def check(self, row, parties, edges):
        kinds = row.grown().kinds
        more = guide(row, parties, edges)
        self.assertIsInstance(more, list)
        self.assertEqual(sorted(more), row.standing[1:-1])
        order = [*row.taken, *more]
        self.assertEqual(len(book_by_walk(kinds, order)), parties)
        self.assertEqual(walk(kinds, order)[0].count("edge"), edges)

    def check_refusals(self, row):
        entries = still(row)
        least, greatest = entries[0][0], entries[-1][0]
        cases = [(least - 1, 0, "few parties", least), (greatest + 1, 0, "many parties", greatest),
                 (-10 ** 99, 0, "few parties", least), (10 ** 99, -1, "many parties", greatest)]
        for parties, low, high in entries:
            cases += [(parties, low - 1, "few edges", low), (parties, high + 1, "many edges", high)]
        for parties, edges, word, bound in cases:
            self.assertEqual(refusal(guide, row, parties, edges), ("CannotBe", word, bound))

    def test_examples(self):
        row = play(EXAMPLE, [2])
        self.assertEqual(sorted(guide(row, 4, 0)), [1, 3])
        self.assertEqual(refusal(guide, row, 3, 0), ("CannotBe", "few parties", 4))
        self.assertEqual(refusal(guide, row, 4, 1), ("CannotBe", "many edges", 0))
        self.assertEqual(guide(row=play(EXAMPLE, [2, 1, 3]), parties=4, edges=0), [])
        # One edge taking is behind this row, so that the bounds count it.
        row = play(Strand([1, 1, 2, 2, 3]), [1])
        self.assertEqual(refusal(guide, row, 3, 0), ("CannotBe", "few edges", 2))

    def test_all_that_can_come(self):
        rows = [play(strand, run) for strand in all_strands([4, 5], 3) for run in all_runs(strand.size)]
        for row in rows + mixed_rows(86, 150):
            for parties, low, high in still(row):
                for edges in range(low, high + 1):
                    self.check(row, parties, edges)
            self.check_refusals(row)

    def test_24_beads(self):
        chance = random.Random(87)
        for strand in random_strands(87, 24, [1, 2, 3, 24]):
            for many in (0, 1, 10, 21, 22):
                row = play(strand, chance.sample(range(1, 23), many))
                for parties, low, high in still(row):
                    for edges in {low, (low + high) // 2, high}:
                        self.check(row, parties, edges)
                self.check_refusals(row)

    def test_the_row_does_not_change(self):
        row = play(EXAMPLE, [2])
        before = (row.standing, row.taken, row.meetings(), row.tally().counts)
        still(row).clear()
        keepers(row, 4, 0).clear()
        guide(row, 4, 0).clear()
        certain(row, 0, 4)
        self.assertEqual((row.standing, row.taken, row.meetings(), row.tally().counts), before)
        self.assertEqual(row.undo(), ("take", 2))
        self.assertEqual(refusal(row.undo), ("NothingToUndo",))


class Certain(unittest.TestCase):
    """Point 86."""

    def check(self, row):
        kinds = row.grown().kinds
        books = [book_by_walk(kinds, [*row.taken, *more]) for more in permutations(row.standing[1:-1])]
        for a in range(len(kinds)):
            for b in range(len(kinds)):
                seen = {any(a in party and b in party for party in book) for book in books}
                word = {(True,): "together", (False,): "apart", (False, True): "open"}[tuple(sorted(seen))]
                self.assertEqual(certain(row, a, b), word, (kinds, row.taken, a, b))

    def test_examples(self):
        self.assertEqual(certain(Row(EXAMPLE), 0, 2), "open")
        self.assertEqual(certain(row=Row(EXAMPLE), a=0, b=4), "together")
        self.assertEqual(certain(Row(EXAMPLE), 1, 3), "apart")
        self.assertEqual(certain(play(EXAMPLE, [2]), 0, 2), "apart")
        self.assertEqual(certain(play(EXAMPLE, [2]), 2, 2), "together")
        self.assertEqual(certain(play(EXAMPLE, [1]), 0, 2), "together")

    def test_all_runs(self):
        for strand in all_strands([2, 3, 4, 5], 3) + all_strands([6], 3)[::3]:
            for run in all_runs(strand.size)[::1 if strand.size < 6 else 3]:
                self.check(play(strand, run))

    def test_rounds_and_growths(self):
        for row in mixed_rows(88, 200):
            self.check(row)

    def test_no_such_bead(self):
        row = play(EXAMPLE, [2])
        for a, b, bead in ((5, 0, 5), (0, 5, 5), (-1, 9, -1), (2, -3, -3), (9, 8, 9), (10 ** 99, 0, 10 ** 99)):
            self.assertEqual(refusal(certain, row, a, b), ("NoSuchBead", bead))
        row.grow(1)
        self.assertEqual(certain(row, 5, 0), "together")
        row.grow(3)
        self.assertEqual(refusal(certain, row, 7, 0), ("NoSuchBead", 7))
        self.assertEqual([certain(row, bead, 6) for bead in range(7)],
                         ["apart", "apart", "apart", "open", "apart", "apart", "together"])
        self.assertEqual(certain(row, 4, 0), "open")

    def test_24_beads(self):
        chance = random.Random(89)
        for strand in random_strands(89, 24, [1, 2, 3]):
            row = play(strand, chance.sample(range(1, 23), 12))
            orders = [row.taken + chance.sample(row.standing[1:-1], 10) for _ in range(5)]
            books = [book_by_walk(strand.kinds, order) for order in orders]
            for a in range(24):
                for b in range(24):
                    word = certain(row, a, b)
                    self.assertEqual(word, certain(row, b, a))
                    for book in books:
                        together = any(a in party and b in party for party in book)
                        self.assertIn(word, ("open", "together" if together else "apart"))


if __name__ == "__main__":
    unittest.main()
