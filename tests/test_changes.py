import unittest
from itertools import combinations

from beadmoot.changes import change_kind, free_order, insert_bead, is_free, least_changes, remove_bead
from beadmoot.outcomes import Outcomes
from beadmoot.strands import Strand
from beadmoot.tolls import least_toll
from tests.helpers import all_strands, random_strands, refusal, toll_of, walked_orders

STRAND = Strand([1, 2, 1, 3, 1])


def free_by_point_66(kinds):
    if len(kinds) == 2:
        return True
    return kinds[0] == kinds[-1] and all(kinds[0] in pair for pair in zip(kinds, kinds[1:]))


def changed(kinds, beads, kind):
    return [kind if bead in beads else own for bead, own in enumerate(kinds)]


def list_by_point_67(kinds, kind):
    """Return the beads that are changed for one kind: the ends, and every second one of each row of others."""
    last = len(kinds) - 1
    beads = [bead for bead in (0, last) if kinds[bead] != kind]
    row = []
    for bead in range(1, last + 1):
        if bead < last and kinds[bead] != kind:
            row.append(bead)
        else:
            beads += row[1::2]
            row = []
    return sorted(beads)


class Free(unittest.TestCase):
    """Point 66."""

    def test_examples(self):
        self.assertIs(is_free(STRAND), True)
        self.assertIs(is_free(strand=Strand([1, 2])), True)
        self.assertIs(is_free(Strand([1, 2, 2, 1])), False)
        self.assertIs(is_free(Strand([1, 2, 3])), False)
        self.assertIs(is_free(Strand([8] * 24)), True)

    def test_against_all_orders(self):
        for strand in all_strands(range(2, 8), 3):
            least = min(marks.count("edge") + marks.count("strife") for _, marks in walked_orders(strand.kinds))
            self.assertEqual(is_free(strand), least == 0)
            self.assertEqual(is_free(strand), free_by_point_66(strand.kinds))
            if least == 0:
                order = free_order(strand)
                self.assertEqual(sorted(order), list(range(1, strand.size - 1)))
                self.assertEqual(toll_of(strand.kinds, order), 0)
            else:
                self.assertEqual(refusal(free_order, strand), ("NotFree", least))

    def test_24_beads(self):
        for kinds in ([1] * 24, [1, 2] * 11 + [1, 1], [1, 5, 1, 1, 7, 1] * 4):
            self.assertIs(is_free(Strand(kinds)), True)
            order = free_order(strand=Strand(kinds))
            self.assertIsInstance(order, list)
            self.assertEqual(toll_of(kinds, order), 0)
            self.assertEqual(len(order), 22)
        for strand in random_strands(66, 24, [1, 2, 3, 24]):
            self.assertEqual(is_free(strand), free_by_point_66(strand.kinds))
        self.assertEqual(refusal(free_order, Strand(list(range(24)))), ("NotFree", 22))
        self.assertEqual(refusal(free_order, Strand([1, 2] * 12)), ("NotFree", 1))


class Changes(unittest.TestCase):
    """Points 67 and 69."""

    def test_examples(self):
        self.assertEqual(least_changes(Strand([1, 2, 3, 2, 1])), (1, [2]))
        self.assertEqual(least_changes(strand=STRAND), (1, []))
        self.assertEqual(least_changes(Strand([5, 2])), (5, []))
        self.assertEqual(least_changes(Strand([2, 5])), (2, []))
        self.assertEqual(least_changes(Strand([3, 2, 1])), (1, [0]))
        self.assertEqual(least_changes(Strand([5, 4, 5])), (5, []))
        self.assertEqual(least_changes(Strand([2, 1, 1, 1])), (1, [0]))
        self.assertEqual(least_changes(Strand([1] + [2] * 22 + [1])), (2, [0, 23]))
        self.assertEqual(least_changes(Strand([1] + [2, 3] * 11 + [1])), (2, [0, 23]))
        self.assertIsInstance(least_changes(STRAND), tuple)

    def test_by_the_words_of_the_point(self):
        for strand in all_strands(range(3, 8), 4) + random_strands(67, 24, [1, 2, 3, 4, 24]):
            lists = {kind: list_by_point_67(strand.kinds, kind) for kind in strand.kinds}
            least = min(len(beads) for beads in lists.values())
            kind = min(kind for kind in lists if len(lists[kind]) == least)
            self.assertEqual(least_changes(strand), (kind, lists[kind]))

    def test_no_fewer_beads_do(self):
        for strand in all_strands(range(3, 8), 3):
            kind, beads = least_changes(strand)
            self.assertIs(is_free(Strand(changed(strand.kinds, beads, kind))), True)
            if not beads:
                continue
            for other in range(4):
                for fewer in combinations(range(strand.size), len(beads) - 1):
                    self.assertFalse(free_by_point_66(changed(strand.kinds, fewer, other)))

    def test_the_strand_becomes_free(self):
        for strand in random_strands(68, 24, [1, 2, 3, 4, 24]):
            kind, beads = least_changes(strand)
            self.assertEqual(beads, sorted(set(beads)))
            self.assertIn(kind, strand.kinds)
            self.assertIs(is_free(Strand(changed(strand.kinds, beads, kind))), True)

    def test_new_each_time(self):
        least_changes(Strand([1, 2, 3, 2, 1]))[1].clear()
        self.assertEqual(least_changes(Strand([1, 2, 3, 2, 1])), (1, [2]))


class Editing(unittest.TestCase):
    """Point 68."""

    def test_insert(self):
        self.assertEqual(insert_bead(STRAND, 1, 9).kinds, (1, 9, 2, 1, 3, 1))
        self.assertEqual(insert_bead(STRAND, 4, 9).kinds, (1, 2, 1, 3, 9, 1))
        self.assertEqual(insert_bead(strand=Strand([1, 2]), place=1, kind=0).kinds, (1, 0, 2))
        self.assertEqual(insert_bead(Strand([1, 2]), 1, 999).kinds, (1, 999, 2))
        self.assertEqual(insert_bead(Strand([1] * 23), 22, 4).kinds, (1,) * 22 + (4, 1))
        self.assertEqual(STRAND.kinds, (1, 2, 1, 3, 1))

    def test_insert_errors(self):
        full = Strand([1] * 24)
        for strand, place, kind, word in (
                (STRAND, 0, 1, ("BadPlace", 0)), (STRAND, 5, 1, ("BadPlace", 5)), (STRAND, -1, -1, ("BadPlace", -1)),
                (STRAND, 10 ** 99, 1, ("BadPlace", 10 ** 99)), (STRAND, 6, 1000, ("BadPlace", 6)),
                (STRAND, 1, -1, ("BadKind", -1)), (STRAND, 4, 1000, ("BadKind", 1000)),
                (full, 0, 1, ("BadPlace", 0)), (full, 24, 1, ("BadPlace", 24)), (full, 1, 1000, ("BadKind", 1000)),
                (full, 23, 1, ("BadStrand", None)), (full, 1, 999, ("BadStrand", None)),
                (Strand([1, 2]), 2, 0, ("BadPlace", 2))):
            self.assertEqual(refusal(insert_bead, strand, place, kind), word)

    def test_remove(self):
        self.assertEqual(remove_bead(STRAND, 1).kinds, (1, 1, 3, 1))
        self.assertEqual(remove_bead(strand=STRAND, bead=3).kinds, (1, 2, 1, 1))
        self.assertEqual(remove_bead(Strand([1, 2, 3]), 1).kinds, (1, 3))
        self.assertEqual(remove_bead(Strand(list(range(24))), 22).kinds, (*range(22), 23))

    def test_remove_errors(self):
        for strand, bead, word in (
                (STRAND, 0, ("EndBead", 0)), (STRAND, 4, ("EndBead", 4)), (STRAND, 5, ("NoSuchBead", 5)),
                (STRAND, -1, ("NoSuchBead", -1)), (Strand([1, 2]), 0, ("EndBead", 0)),
                (Strand([1, 2]), 1, ("EndBead", 1)), (Strand([1, 2]), 2, ("NoSuchBead", 2))):
            self.assertEqual(refusal(remove_bead, strand, bead), word)

    def test_change(self):
        self.assertEqual(change_kind(STRAND, 0, 7).kinds, (7, 2, 1, 3, 1))
        self.assertEqual(change_kind(STRAND, 4, 0).kinds, (1, 2, 1, 3, 0))
        self.assertEqual(change_kind(strand=STRAND, bead=2, kind=999).kinds, (1, 2, 999, 3, 1))
        self.assertEqual(change_kind(STRAND, 1, 2).kinds, STRAND.kinds)

    def test_change_errors(self):
        for bead, kind, word in ((5, 1, ("NoSuchBead", 5)), (-1, 1000, ("NoSuchBead", -1)), (0, -1, ("BadKind", -1)),
                                 (4, 1000, ("BadKind", 1000)), (5, -1, ("NoSuchBead", 5))):
            self.assertEqual(refusal(change_kind, STRAND, bead, kind), word)

    def test_results_are_strands(self):
        for strand in (insert_bead(STRAND, 2, 1), remove_bead(STRAND, 2), change_kind(STRAND, 2, 3)):
            self.assertIsInstance(strand, Strand)
            self.assertEqual(strand.size, len(strand.kinds))

    def test_what_an_inserted_bead_changes(self):
        for strand in all_strands(range(2, 7), 3) + random_strands(69, 23, [2, 3, 24]):
            toll, fewest = least_toll(strand), Outcomes(strand).rows[0][0]
            for place in range(1, strand.size, 1 if strand.size < 10 else 5):
                for kind in range(4):
                    wider = insert_bead(strand, place, kind)
                    self.assertIn(least_toll(wider) - toll, (-1, 0, 1))
                    self.assertIn(Outcomes(wider).rows[0][0] - fewest, (0, 1))


if __name__ == "__main__":
    unittest.main()
