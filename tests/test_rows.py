import unittest
from itertools import combinations, permutations

from beadmoot.parties import ended_parties
from beadmoot.rows import Row
from beadmoot.strands import Strand
from tests.helpers import all_orders, all_strands, refusal, walk


def seen(row):
    """Return all that a row tells about itself."""
    return (row.standing, row.taken, row.is_done(), row.grown().kinds, row.rest().kinds, row.meetings(),
            row.tally().counts, list(row), [bead for bead in range(-2, 26) if bead in row])


def row_of(*kinds):
    return Row(Strand(kinds))


class Standing(unittest.TestCase):
    """Point 12."""

    def test_new_row(self):
        row = row_of(1, 2, 1, 3, 1)
        self.assertEqual(row.standing, [0, 1, 2, 3, 4])
        self.assertEqual(row.taken, [])
        self.assertEqual(list(row), [0, 1, 2, 3, 4])

    def test_after_takings(self):
        row = row_of(1, 2, 1, 3, 1)
        row.take(3)
        row.take(1)
        self.assertEqual(row.standing, [0, 2, 4])
        self.assertEqual(row.taken, [3, 1])
        self.assertEqual(list(row), [0, 2, 4])
        self.assertEqual([bead in row for bead in range(-1, 6)], [False, True, False, True, False, True, False])
        self.assertIs(2 in row, True)
        self.assertIs(10 ** 99 in row, False)

    def test_lists_are_new(self):
        row = row_of(1, 2, 1, 3, 1)
        row.take(2)
        before = seen(row)
        for found in (row.standing, row.taken, row.meetings()):
            found.clear()
        self.assertEqual(seen(row), before)

    def test_taking_while_iterating(self):
        row = row_of(1, 2, 1, 3, 1)
        for bead in row:
            if 0 < bead < 4:
                row.take(bead)
        self.assertEqual(row.taken, [1, 2, 3])

    def test_not_assigned(self):
        row = row_of(1, 2, 1)
        with self.assertRaises(AttributeError):
            row.standing = []
        with self.assertRaises(AttributeError):
            row.taken = []


class Taking(unittest.TestCase):
    """Point 13."""

    def test_marks(self):
        row = row_of(1, 2, 1, 3, 1)
        self.assertEqual([row.take(2), row.take(1), row.take(bead=3)], ["strife", "strife", "odd"])
        row = row_of(1, 2, 1, 3, 1)
        self.assertEqual([row.take(1), row.take(3), row.take(2)], ["odd", "odd", "quiet"])

    def test_mark_changes_nothing(self):
        row = row_of(1, 2, 1, 3, 1)
        before = seen(row)
        self.assertEqual([row.mark(1), row.mark(bead=2), row.mark(3)], ["odd", "strife", "odd"])
        self.assertEqual(seen(row), before)
        self.assertEqual(refusal(row.undo), ("NothingToUndo",))

    def test_against_walks(self):
        for strand in all_strands(range(2, 6), 3):
            for order in all_orders(strand.size):
                row = Row(strand)
                found = [(row.mark(bead), row.take(bead)) for bead in order]
                self.assertEqual(found, [(mark, mark) for mark in walk(strand.kinds, order)[0]])

    def test_errors(self):
        row = row_of(1, 2, 1, 3, 1)
        row.take(2)
        before = seen(row)
        for method in (row.take, row.mark):
            for bead in (-1, 5, 10 ** 99, -5):
                self.assertEqual(refusal(method, bead), ("NoSuchBead", bead))
            self.assertEqual(refusal(method, 2), ("GoneBead", 2))
            self.assertEqual(refusal(method, 0), ("EndBead", 0))
            self.assertEqual(refusal(method, 4), ("EndBead", 4))
        self.assertEqual(seen(row), before)
        self.assertEqual(row.undo(), ("take", 2))

    def test_two_beads(self):
        row = row_of(3, 4)
        self.assertIs(row.is_done(), True)
        self.assertEqual(refusal(row.take, 0), ("EndBead", 0))
        self.assertEqual(refusal(row.take, 1), ("EndBead", 1))
        self.assertEqual(refusal(row.take, 2), ("NoSuchBead", 2))

    def test_neighbours(self):
        row = row_of(1, 2, 1, 3, 1)
        row.take(2)
        self.assertEqual([row.neighbours(bead) for bead in (0, 1, 3, 4)], [(None, 1), (0, 3), (1, 4), (3, None)])
        self.assertEqual(row.neighbours(bead=1), (0, 3))
        self.assertEqual(refusal(row.neighbours, 2), ("GoneBead", 2))
        for bead in (-1, 5):
            self.assertEqual(refusal(row.neighbours, bead), ("NoSuchBead", bead))

    def test_is_done(self):
        row = row_of(1, 2, 1, 3)
        self.assertIs(row.is_done(), False)
        row.take(1)
        self.assertIs(row.is_done(), False)
        row.take(2)
        self.assertIs(row.is_done(), True)


class Rounds(unittest.TestCase):
    """Point 14."""

    def test_marks_and_beads_in_order(self):
        row = row_of(1, 2, 1, 3, 1, 1, 2)
        self.assertEqual(row.take_round([5, 3, 1]), ["edge", "odd", "odd"])
        self.assertEqual(row.taken, [5, 3, 1])
        self.assertEqual(row.standing, [0, 2, 4, 6])

    def test_empty_round(self):
        row = row_of(1, 2, 1)
        before = seen(row)
        self.assertEqual(row.take_round([]), [])
        self.assertEqual(seen(row), before)
        self.assertEqual(row.undo(), ("round", []))
        self.assertEqual(refusal(row.undo), ("NothingToUndo",))

    def test_errors_bead_by_bead(self):
        row = row_of(1, 2, 1, 3, 1, 2, 1)
        row.take(3)
        before = seen(row)
        cases = (
            ([1, 1], ("GoneBead", 1)), ([1, 5, 1], ("GoneBead", 1)), ([3], ("GoneBead", 3)),
            ([7], ("NoSuchBead", 7)), ([-1], ("NoSuchBead", -1)), ([0], ("EndBead", 0)), ([1, 6], ("EndBead", 6)),
            ([1, 2, 0], ("EndBead", 0)), ([1, 2, 1], ("GoneBead", 1)), ([0, 7], ("EndBead", 0)),
            ([7, 7], ("NoSuchBead", 7)), ([3, 0, 7], ("GoneBead", 3)), ([1, 7, 1], ("NoSuchBead", 7)),
        )
        for beads, wanted in cases:
            self.assertEqual(refusal(row.take_round, beads), wanted, beads)
            self.assertEqual(refusal(row.take_round, tuple(beads)), wanted, beads)
        self.assertEqual(seen(row), before)
        self.assertEqual(row.undo(), ("take", 3))

    def test_not_apart(self):
        row = row_of(1, 2, 1, 3, 1, 2, 1)
        row.take(3)
        before = seen(row)
        self.assertEqual(refusal(row.take_round, [4, 2]), ("NotApart", 2, 4))
        self.assertEqual(refusal(row.take_round, [5, 4, 2, 1]), ("NotApart", 1, 2))
        self.assertEqual(refusal(row.take_round, beads=[4, 5, 1]), ("NotApart", 4, 5))
        self.assertEqual(seen(row), before)
        self.assertEqual(row.undo(), ("take", 3))
        self.assertEqual(row.take_round((2, 4)), ["strife", "strife"])

    def test_as_if_taken_one_after_another(self):
        for strand in all_strands([6], 3):
            for beads in ([1, 3], [3, 1], [4, 1], [2, 4], [4, 2]):
                together, single = Row(strand), Row(strand)
                self.assertEqual(together.take_round(beads), [single.take(bead) for bead in beads])
                self.assertEqual(seen(together), seen(single))

    def test_the_list_is_copied(self):
        row = row_of(1, 2, 1, 3, 1)
        beads = [3, 1]
        row.take_round(beads)
        self.assertEqual(beads, [3, 1])
        beads.append(2)
        self.assertEqual(row.taken, [3, 1])
        self.assertEqual(row.undo(), ("round", [3, 1]))

    def test_all_rounds_that_are_apart(self):
        strand = Strand([1, 2, 3, 1, 2, 2, 1])
        for many in range(4):
            for beads in permutations(range(1, 6), many):
                close = any(abs(a - b) == 1 for a, b in combinations(beads, 2))
                word = refusal(Row(strand).take_round, list(beads))
                self.assertEqual(word is not None and word[0] == "NotApart", close)


class Growth(unittest.TestCase):
    """Point 15."""

    def test_grow(self):
        row = row_of(1, 2)
        self.assertEqual(row.grow(1), 2)
        self.assertEqual(row.standing, [0, 1, 2])
        self.assertEqual(row.take(1), "odd")
        self.assertEqual(row.grow(kind=999), 3)
        self.assertEqual(row.grow(0), 4)
        self.assertEqual(row.grown().kinds, (1, 2, 1, 999, 0))
        self.assertEqual(row.rest().kinds, (1, 1, 999, 0))
        self.assertEqual(refusal(row.take, 4), ("EndBead", 4))
        self.assertEqual(row.neighbours(3), (2, 4))

    def test_strand_is_not_changed(self):
        strand = Strand([1, 2])
        Row(strand).grow(5)
        self.assertEqual(strand.kinds, (1, 2))

    def test_growth_of_a_row_that_is_done(self):
        row = row_of(1, 2, 1)
        row.take(1)
        self.assertTrue(row.is_done())
        row.grow(3)
        self.assertFalse(row.is_done())
        self.assertEqual(row.take(2), "edge")
        self.assertEqual(row.standing, [0, 3])

    def test_up_to_24_beads(self):
        row = row_of(1, 2)
        for number in range(2, 24):
            self.assertEqual(row.grow(number), number)
            if number > 2:
                row.take(number - 1)
        before = seen(row)
        self.assertEqual(refusal(row.grow, 1), ("RowFull",))
        self.assertEqual(refusal(row.grow, 1000), ("BadKind", 1000))
        self.assertEqual(seen(row), before)
        self.assertEqual(row.grown().size, 24)
        self.assertEqual(row.undo(), ("take", 22))
        self.assertEqual(row.undo(), ("grow", 23))
        self.assertEqual(row.grow(7), 23)

    def test_bad_kind(self):
        row = row_of(1, 2)
        for kind in (-1, 1000, 10 ** 99):
            self.assertEqual(refusal(row.grow, kind), ("BadKind", kind))
        self.assertEqual(row.standing, [0, 1])
        self.assertEqual(refusal(row.undo), ("NothingToUndo",))


class Undoing(unittest.TestCase):
    """Point 16."""

    def test_each_sort_of_deed(self):
        row = row_of(1, 2, 1, 3, 1)
        states = []
        deeds = [lambda: row.take(2), lambda: row.grow(2), lambda: row.take_round([4, 1]), lambda: row.take_round(()),
                 lambda: row.grow(1), lambda: row.take(5), lambda: row.take(3)]
        for deed in deeds:
            states.append(seen(row))
            deed()
        wanted = [("take", 3), ("take", 5), ("grow", 6), ("round", []), ("round", [4, 1]), ("grow", 5), ("take", 2)]
        for word in wanted:
            self.assertEqual(row.undo(), word)
            self.assertEqual(seen(row), states.pop())
        self.assertEqual(refusal(row.undo), ("NothingToUndo",))

    def test_deeds_after_undoing(self):
        row = row_of(1, 2, 1, 3, 1)
        row.take(2)
        row.undo()
        row.take(1)
        row.take(2)
        self.assertEqual(row.undo(), ("take", 2))
        self.assertEqual(row.undo(), ("take", 1))
        self.assertEqual(refusal(row.undo), ("NothingToUndo",))

    def test_the_returned_list_is_new(self):
        row = row_of(1, 2, 1, 3, 1)
        row.take_round([1, 3])
        twin = row.twin()
        row.undo()[1].append(7)
        self.assertEqual(twin.undo(), ("round", [1, 3]))

    def test_twin_goes_its_own_way(self):
        row = row_of(1, 2, 1, 3, 1)
        row.take(2)
        row.grow(4)
        twin = row.twin()
        self.assertEqual(seen(twin), seen(row))
        before = seen(row)
        twin.take(3)
        twin.grow(5)
        self.assertEqual(seen(row), before)
        after = seen(twin)
        self.assertEqual(row.undo(), ("grow", 5))
        self.assertEqual(row.undo(), ("take", 2))
        self.assertEqual(refusal(row.undo), ("NothingToUndo",))
        self.assertEqual(seen(twin), after)
        self.assertEqual([twin.undo() for _ in range(4)], [("grow", 6), ("take", 3), ("grow", 5), ("take", 2)])
        self.assertEqual(refusal(twin.undo), ("NothingToUndo",))
        self.assertEqual(seen(twin), seen(row_of(1, 2, 1, 3, 1)))

    def test_a_thousand_deeds(self):
        row = row_of(*range(24))
        for _ in range(500):
            row.take_round([])
            row.take(5)
            row.undo()
        for _ in range(500):
            row.undo()
        self.assertEqual(seen(row), seen(row_of(*range(24))))


class Meetings(unittest.TestCase):
    """Point 17."""

    def test_order(self):
        row = row_of(1, 2, 1, 3, 1)
        self.assertEqual(row.meetings(), [(0, 1), (1, 2), (2, 3), (3, 4)])
        row.take(3)
        row.take(1)
        row.grow(1)
        row.take(4)
        self.assertEqual(row.meetings(), [(0, 1), (1, 2), (2, 3), (3, 4), (2, 4), (0, 2), (4, 5), (2, 5)])
        row.undo()
        row.undo()
        self.assertEqual(row.meetings(), [(0, 1), (1, 2), (2, 3), (3, 4), (2, 4), (0, 2)])

    def test_round(self):
        row = row_of(1, 2, 1, 3, 1, 2)
        row.take_round([4, 2])
        self.assertEqual(row.meetings()[5:], [(3, 5), (1, 3)])
        row.undo()
        self.assertEqual(row.meetings(), [(0, 1), (1, 2), (2, 3), (3, 4), (4, 5)])

    def test_two_beads(self):
        self.assertEqual(row_of(1, 1).meetings(), [(0, 1)])

    def test_against_walks(self):
        for strand in all_strands(range(2, 7), 1):
            for order in all_orders(strand.size):
                row = Row(strand)
                for bead in order:
                    row.take(bead)
                found = row.meetings()
                self.assertEqual(set(found), walk(strand.kinds, order)[1])
                self.assertEqual(len(set(found)), len(found))

    def test_tally(self):
        row = row_of(1, 2, 1, 3, 1)
        self.assertEqual(row.tally().counts, (0, 0, 0, 0))
        row.take_round([1, 3])
        row.take(2)
        self.assertEqual(row.tally().counts, (1, 2, 0, 0))
        row.undo()
        self.assertEqual(row.tally().counts, (0, 2, 0, 0))


class Losing(unittest.TestCase):
    """Point 18."""

    def unlike(self, kinds):
        return sum(a != b for a, b in zip(kinds, kinds[1:]))

    def test_lost_pairs(self):
        for strand in all_strands([2, 5, 6], 3):
            for order in all_orders(strand.size)[::3]:
                row = Row(strand)
                for turn, bead in enumerate(order):
                    row.take(bead)
                    if turn == 1:
                        row.grow(strand.kinds[1])
                    tally = row.tally()
                    lost = self.unlike(row.grown().kinds) - self.unlike(row.rest().kinds)
                    self.assertEqual(tally.lost(), lost)
                    ended = len(ended_parties(row))
                    self.assertEqual((tally.odd, tally.strife), (lost - ended, 2 * ended - lost))


if __name__ == "__main__":
    unittest.main()
