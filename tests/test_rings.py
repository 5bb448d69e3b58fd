import unittest

from beadmoot.rings import Ring, ring_play
from beadmoot.strands import Strand
from beadmoot.tallies import MARKS
from tests.helpers import all_ring_orders, all_strands, book_by_walk, refusal, walk


def seen(ring):
    """Return all that a ring tells about itself."""
    last = None if refusal(ring.last_unlike) else ring.last_unlike()
    return (ring.standing, ring.taken, ring.is_done(), last, ring.tally().counts, ring.meetings(),
            [bead for bead in range(-2, 26) if bead in ring],
            [ring.neighbours(bead) for bead in ring.standing])


def ring_of(*kinds):
    return Ring(Strand(kinds))


class Taking(unittest.TestCase):
    """Point 22."""

    def test_new_ring(self):
        ring = ring_of(1, 2, 1, 3)
        self.assertEqual((ring.standing, ring.taken), ([0, 1, 2, 3], []))
        self.assertEqual([bead in ring for bead in (-1, 0, 3, 4)], [False, True, True, False])
        self.assertIs(0 in ring, True)

    def test_neighbours(self):
        ring = ring_of(1, 2, 1, 3, 1)
        self.assertEqual([ring.neighbours(bead) for bead in range(5)], [(4, 1), (0, 2), (1, 3), (2, 4), (3, 0)])
        ring.take(0)
        ring.take(3)
        self.assertEqual([ring.neighbours(bead) for bead in (1, 2, 4)], [(4, 2), (1, 4), (2, 1)])
        ring.take(bead=2)
        self.assertEqual([ring.neighbours(bead=1), ring.neighbours(4)], [(4, 4), (1, 1)])

    def test_marks(self):
        ring = ring_of(1, 2, 1, 3)
        self.assertEqual([ring.take(0), ring.take(3)], ["strife", "strife"])
        ring = ring_of(1, 2, 1)
        self.assertEqual(ring.take(1), "odd")
        ring = ring_of(1, 2, 1)
        self.assertEqual(ring.take(2), "edge")
        self.assertEqual(ring_of(7, 7, 7).take(0), "quiet")

    def test_errors(self):
        ring = ring_of(1, 2, 1, 3)
        ring.take(0)
        before = seen(ring)
        for method in (ring.take, ring.neighbours):
            for bead in (-1, 4, 10 ** 99):
                self.assertEqual(refusal(method, bead), ("NoSuchBead", bead))
            self.assertEqual(refusal(method, 0), ("GoneBead", 0))
        self.assertEqual(seen(ring), before)
        ring.take(2)
        before = seen(ring)
        self.assertEqual(refusal(ring.take, 1), ("TwoLeft",))
        self.assertEqual(refusal(ring.take, 2), ("GoneBead", 2))
        self.assertEqual(refusal(ring.take, 4), ("NoSuchBead", 4))
        self.assertEqual(seen(ring), before)
        self.assertEqual(ring.undo(), 2)

    def test_two_beads(self):
        ring = ring_of(1, 2)
        self.assertIs(ring.is_done(), True)
        self.assertEqual(ring.last_unlike(), 1)
        self.assertEqual(ring_of(2, 2).last_unlike(), 0)
        self.assertEqual([ring.neighbours(0), ring.neighbours(1)], [(1, 1), (0, 0)])
        self.assertEqual(refusal(ring.take, 0), ("TwoLeft",))
        self.assertEqual(refusal(ring.take, 2), ("NoSuchBead", 2))
        self.assertEqual(refusal(ring.undo), ("NothingToUndo",))

    def test_last_unlike(self):
        ring = ring_of(1, 2, 1)
        self.assertIs(ring.is_done(), False)
        self.assertEqual(refusal(ring.last_unlike), ("NotDone",))
        ring.take(0)
        self.assertIs(ring.is_done(), True)
        self.assertEqual(ring.last_unlike(), 1)
        ring.undo()
        ring.take(1)
        self.assertEqual(ring.last_unlike(), 0)

    def test_undo(self):
        ring = ring_of(1, 2, 1, 3, 1)
        states = []
        for bead in (4, 0, 2):
            states.append(seen(ring))
            ring.take(bead)
        for bead in (2, 0, 4):
            self.assertEqual(ring.undo(), bead)
            self.assertEqual(seen(ring), states.pop())
        self.assertEqual(refusal(ring.undo), ("NothingToUndo",))

    def test_lists_are_new(self):
        ring = ring_of(1, 2, 1, 3)
        ring.take(1)
        before = seen(ring)
        for found in (ring.standing, ring.taken, ring.meetings()):
            found.clear()
        self.assertEqual(seen(ring), before)

    def test_against_walks(self):
        for strand in all_strands(range(2, 6), 3):
            for order in all_ring_orders(strand.size):
                ring = Ring(strand)
                marks = [ring.take(bead) for bead in order]
                self.assertEqual(marks, walk(strand.kinds, order, closed=True)[0])
                self.assertEqual(ring.tally().counts, tuple(marks.count(mark) for mark in MARKS))


class Meetings(unittest.TestCase):
    """Point 23."""

    def test_new_rings(self):
        self.assertEqual(ring_of(1, 2).meetings(), [(0, 1)])
        self.assertEqual(ring_of(1, 2, 3).meetings(), [(0, 1), (1, 2), (0, 2)])
        self.assertEqual(ring_of(1, 2, 3, 4).meetings(), [(0, 1), (1, 2), (2, 3), (0, 3)])

    def test_takings(self):
        ring = ring_of(1, 2, 3, 4, 5)
        ring.take(0)
        ring.take(2)
        self.assertEqual(ring.meetings()[5:], [(1, 4), (1, 3)])
        ring.take(1)
        self.assertEqual(ring.meetings()[5:], [(1, 4), (1, 3)])
        ring.undo()
        ring.undo()
        self.assertEqual(ring.meetings()[5:], [(1, 4)])

    def test_against_walks(self):
        for size in range(2, 7):
            strand = Strand([1] * size)
            for order in all_ring_orders(size):
                found = ring_play(strand, order).meetings()
                self.assertEqual(set(found), walk(strand.kinds, order, closed=True)[1])
                self.assertEqual(len(set(found)), len(found))

    def test_ring_play(self):
        strand = Strand([1, 2, 1, 3])
        ring = ring_play(strand, [3, 0])
        self.assertEqual((ring.taken, ring.standing), ([3, 0], [1, 2]))
        self.assertEqual([ring.undo(), ring.undo()], [0, 3])
        self.assertEqual(ring_play(strand, ()).standing, [0, 1, 2, 3])
        self.assertEqual(ring_play(strand=strand, run=(0,)).taken, [0])

    def test_bad_runs(self):
        strand = Strand([1, 2, 1, 3])
        cases = (([4], 0), ([-1], 0), ([0, 0], 1), ([0, 4], 1), ([0, 3, 1], 2), ([0, 3, 0], 2), ([0, 3, 9], 2),
                 ([0, 10 ** 99, 0], 1))
        for run, at in cases:
            self.assertEqual(refusal(ring_play, strand, run), ("BadRun", at))
        self.assertEqual(refusal(ring_play, Strand([1, 2]), [0]), ("BadRun", 0))


class Parties(unittest.TestCase):
    """Point 32, what it says of a ring."""

    def test_odd_and_strife(self):
        for strand in all_strands(range(2, 6), 4):
            for order in all_ring_orders(strand.size):
                ring = ring_play(strand, order)
                many = len(book_by_walk(strand.kinds, order, closed=True))
                tally = ring.tally()
                self.assertEqual(tally.odd, strand.unlike_pairs - many + 1 - ring.last_unlike())
                self.assertEqual(tally.strife, 2 * many - strand.unlike_pairs - 2)


if __name__ == "__main__":
    unittest.main()
