import unittest

from beadmoot.orders import check_run, marks_of, play, steps, tally_of, total_of
from beadmoot.strands import Strand
from beadmoot.tallies import MARKS, Prices
from tests.helpers import all_orders, all_strands, refusal, walk

STRAND = Strand([1, 2, 1, 3, 1])


def first_step(strand, run):
    """Ask the generator for its first triple."""
    return next(iter(steps(strand, run)))


class Checking(unittest.TestCase):
    """Point 19."""

    def test_runs(self):
        for run in ([], [1], [3, 1], [2, 3, 1], (1, 2)):
            self.assertIsNone(check_run(STRAND, run))
        self.assertIsNone(check_run(strand=STRAND, run=[3, 1, 2], whole=True))
        self.assertIsNone(check_run(Strand([1, 2]), [], whole=True))

    def test_first_bad_entry(self):
        cases = (([1, 4], 1), ([0], 0), ([1, 1], 1), ([-1, 0], 0), ([1, 2, 3, 2], 3), ([2, 5], 1), ([10 ** 99], 0),
                 ([1, 2, 3, 0], 3))
        for run, at in cases:
            for whole in (False, True):
                self.assertEqual(refusal(check_run, STRAND, run, whole=whole), ("BadRun", at))
                self.assertEqual(refusal(check_run, STRAND, tuple(run), whole=whole), ("BadRun", at))
        self.assertEqual(refusal(check_run, Strand([1, 2]), [0]), ("BadRun", 0))

    def test_not_whole(self):
        self.assertEqual(refusal(check_run, STRAND, [], whole=True), ("BadRun", 0))
        self.assertEqual(refusal(check_run, STRAND, [3, 1], whole=True), ("BadRun", 2))
        self.assertEqual(refusal(check_run, STRAND, [3, 3], whole=True), ("BadRun", 1))
        self.assertIsNone(check_run(STRAND, [3, 1], whole=False))

    def test_whole_by_name_only(self):
        with self.assertRaises(TypeError):
            check_run(STRAND, [1], True)


class Playing(unittest.TestCase):
    """Points 20 and 21."""

    def test_example(self):
        self.assertEqual(marks_of(STRAND, [2, 1, 3]), ["strife", "strife", "odd"])
        self.assertEqual(marks_of(STRAND, [1, 3, 2]), ["odd", "odd", "quiet"])

    def test_play(self):
        row = play(STRAND, [3, 1])
        self.assertEqual((row.taken, row.standing), ([3, 1], [0, 2, 4]))
        self.assertEqual([row.undo(), row.undo()], [("take", 1), ("take", 3)])
        self.assertEqual(refusal(row.undo), ("NothingToUndo",))
        self.assertEqual(play(STRAND, ()).standing, [0, 1, 2, 3, 4])

    def test_new_rows(self):
        first = play(STRAND, [1])
        first.take(2)
        self.assertEqual(play(STRAND, [1]).taken, [1])

    def test_against_walks(self):
        prices = Prices(quiet=1, odd=-10, edge=100, strife=1000)
        for strand in all_strands(range(2, 6), 3):
            for order in all_orders(strand.size):
                for run in (order, order[:1]):
                    marks = walk(strand.kinds, run)[0]
                    counts = tuple(marks.count(mark) for mark in MARKS)
                    self.assertEqual(marks_of(strand, run), marks)
                    self.assertEqual(tally_of(strand, run).counts, counts)
                    total = counts[0] - 10 * counts[1] + 100 * counts[2] + 1000 * counts[3]
                    self.assertEqual(total_of(strand, run, prices), total)

    def test_empty_run(self):
        self.assertEqual(marks_of(STRAND, []), [])
        self.assertEqual(tally_of(STRAND, []).counts, (0, 0, 0, 0))
        self.assertEqual(total_of(STRAND, [], Prices(quiet=5)), 0)
        self.assertEqual(list(steps(STRAND, [])), [])

    def test_errors(self):
        for run, at in (([1, 4], 1), ([0], 0), ([3, 2, 3], 2), ([-1], 0)):
            for call in (play, marks_of, tally_of, first_step):
                self.assertEqual(refusal(call, STRAND, run), ("BadRun", at))
            self.assertEqual(refusal(total_of, STRAND, run, Prices()), ("BadRun", at))

    def test_tuples(self):
        self.assertEqual(marks_of(STRAND, (2, 1, 3)), ["strife", "strife", "odd"])
        self.assertEqual(tally_of(STRAND, (2, 1)).counts, (0, 0, 0, 2))
        self.assertEqual(total_of(strand=STRAND, run=(2, 1), prices=Prices()), 2)


class Steps(unittest.TestCase):
    """Point 20."""

    def test_triples(self):
        self.assertEqual(list(steps(STRAND, [2, 1, 3])), [
            (2, "strife", (1, 3)), (1, "strife", (0, 3)), (3, "odd", (0, 4))])
        self.assertEqual(list(steps(strand=STRAND, run=(1,))), [(1, "odd", (0, 2))])

    def test_a_generator(self):
        found = steps(STRAND, [1, 3])
        self.assertIs(iter(found), found)
        self.assertEqual(next(found), (1, "odd", (0, 2)))
        self.assertEqual(next(found), (3, "odd", (2, 4)))
        with self.assertRaises(StopIteration):
            next(found)

    def test_read_when_the_iteration_begins(self):
        run = [1, 9]
        found = steps(STRAND, run)
        run[1] = 3
        self.assertEqual([bead for bead, _, _ in found], [1, 3])

    def test_error_before_the_first_triple(self):
        found = steps(STRAND, [1, 3, 1])
        self.assertEqual(refusal(next, found), ("BadRun", 2))

    def test_two_at_once(self):
        first, second = steps(STRAND, [1, 2]), steps(STRAND, [1, 2])
        self.assertEqual([next(first), next(second), next(first), next(second)], [
            (1, "odd", (0, 2)), (1, "odd", (0, 2)), (2, "edge", (0, 3)), (2, "edge", (0, 3))])


if __name__ == "__main__":
    unittest.main()
