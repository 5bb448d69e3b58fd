import unittest

from beadmoot.strands import Strand
from tests.helpers import all_strands, refusal


class Creation(unittest.TestCase):
    """Point 5."""

    def test_kinds(self):
        self.assertEqual(Strand([1, 2, 1]).kinds, (1, 2, 1))
        self.assertEqual(Strand((0, 999)).kinds, (0, 999))
        self.assertEqual(Strand(kinds=[5, 5]).size, 2)

    def test_number_of_beads(self):
        self.assertEqual(Strand([7] * 24).size, 24)
        for kinds in ([], [1], [1] * 25, [1] * 300, (), [-1], [1000] * 25):
            self.assertEqual(refusal(Strand, kinds), ("BadStrand", None))

    def test_first_bad_kind(self):
        self.assertEqual(refusal(Strand, [1, 1000]), ("BadStrand", 1))
        self.assertEqual(refusal(Strand, [-1, 1000]), ("BadStrand", 0))
        self.assertEqual(refusal(Strand, [0, 999, 10 ** 99, -1]), ("BadStrand", 2))
        self.assertEqual(refusal(Strand, [0] * 23 + [-1]), ("BadStrand", 23))

    def test_letters(self):
        self.assertEqual(Strand.from_letters("az").kinds, (0, 25))
        self.assertEqual(Strand.from_letters("abcab").kinds, (0, 1, 2, 0, 1))
        self.assertEqual(Strand.from_letters(text="mm").kinds, (12, 12))
        self.assertEqual(Strand.from_letters("abcdefghijklmnopqrstuvwx").kinds, tuple(range(24)))

    def test_bad_letters(self):
        for text in ("", "a", "A", "a" * 25, " " * 25, "a" * 4000):
            self.assertEqual(refusal(Strand.from_letters, text), ("BadStrand", None))
        for text, at in (("aB", 1), ("a b", 1), (" a", 0), ("ab\n", 2), ("a`", 1), ("a{", 1), ("1a", 0), ("abA1", 2)):
            self.assertEqual(refusal(Strand.from_letters, text), ("BadStrand", at))

    def test_class_values(self):
        self.assertEqual((Strand.MOST, Strand.TOP_KIND), (24, 999))

    def test_copies_its_list(self):
        kinds = [1, 2]
        strand = Strand(kinds)
        kinds[0] = 9
        self.assertEqual(strand.kinds, (1, 2))


class Attributes(unittest.TestCase):
    """Point 6."""

    def described(self, kinds):
        strand = Strand(kinds)
        return strand.size, strand.unlike_pairs, strand.ends_unlike, strand.variety

    def test_two_beads(self):
        self.assertEqual(self.described([1, 2]), (2, 2, 1, 2))
        self.assertEqual(self.described([3, 3]), (2, 0, 0, 1))

    def test_longer(self):
        self.assertEqual(self.described([1, 2, 1]), (3, 2, 0, 2))
        self.assertEqual(self.described([1, 2, 1, 3, 1]), (5, 4, 0, 3))
        self.assertEqual(self.described([1, 2, 3]), (3, 3, 1, 3))
        self.assertEqual(self.described([5] * 24), (24, 0, 0, 1))
        self.assertEqual(self.described(list(range(24))), (24, 24, 1, 24))

    def test_against_the_words(self):
        for strand in all_strands(range(2, 7), 3):
            ring = [*strand.kinds, strand.kinds[0]]
            unlike = sum(a != b for a, b in zip(ring, ring[1:]))
            self.assertEqual(strand.unlike_pairs, unlike)
            self.assertEqual(strand.ends_unlike, int(strand.kinds[0] != strand.kinds[-1]))
            self.assertEqual(strand.variety, len(set(strand.kinds)))
            self.assertIs(type(strand.ends_unlike), int)


class Stretches(unittest.TestCase):
    """Point 7."""

    def test_examples(self):
        self.assertEqual(Strand([1, 2, 1]).stretches(), [(2, 0), (1,)])
        self.assertEqual(Strand([1, 1, 2, 3, 3, 1, 1]).stretches(), [(5, 6, 0, 1), (2,), (3, 4)])
        self.assertEqual(Strand([1, 1, 2, 2]).stretches(), [(0, 1), (2, 3)])
        self.assertEqual(Strand([1, 2, 2, 2]).stretches(), [(0,), (1, 2, 3)])
        self.assertEqual(Strand([1, 2]).stretches(), [(0,), (1,)])

    def test_all_alike(self):
        self.assertEqual(Strand([4, 4]).stretches(), [(0, 1)])
        self.assertEqual(Strand([4] * 24).stretches(), [tuple(range(24))])

    def test_what_all_have_in_common(self):
        for strand in all_strands(range(2, 8), 3):
            found = strand.stretches()
            beads = [bead for stretch in found for bead in stretch]
            start = beads.index(0)
            self.assertLess(start, len(found[0]))
            self.assertEqual(beads[start:] + beads[:start], list(range(strand.size)))
            for stretch in found:
                self.assertEqual(len({strand.kinds[bead] for bead in stretch}), 1)
            if strand.variety > 1:
                self.assertEqual(len(found), strand.unlike_pairs)
            else:
                self.assertEqual(found, [tuple(range(strand.size))])

    def test_the_list_is_new(self):
        strand = Strand([1, 2, 1])
        strand.stretches().clear()
        self.assertEqual(strand.stretches(), [(2, 0), (1,)])


class Turning(unittest.TestCase):
    """Point 8."""

    def test_mirrored(self):
        self.assertEqual(Strand([1, 2, 3, 3]).mirrored().kinds, (3, 3, 2, 1))

    def test_turned(self):
        strand = Strand([1, 2, 3])
        self.assertEqual([strand.turned(bead).kinds for bead in range(3)], [(1, 2, 3), (2, 3, 1), (3, 1, 2)])
        self.assertEqual(strand.turned(bead=1).kinds, (2, 3, 1))
        self.assertEqual(strand.kinds, (1, 2, 3))

    def test_no_such_bead(self):
        for bead in (-1, 3, 10 ** 99, -10 ** 99):
            self.assertEqual(refusal(Strand([1, 2, 3]).turned, bead), ("NoSuchBead", bead))

    def test_iteration(self):
        self.assertEqual(list(Strand([3, 1, 2])), [3, 1, 2])
        self.assertEqual([kind for kind in Strand((0, 999))], [0, 999])


if __name__ == "__main__":
    unittest.main()
