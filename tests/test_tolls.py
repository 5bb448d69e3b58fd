import unittest

from beadmoot.strands import Strand
from beadmoot.tolls import greatest_toll, least_toll, order_with_toll
from tests.helpers import all_strands, random_strands, refusal, toll_of, walked_orders

STRAND = Strand([1, 2, 1, 3, 1])


def greatest_by_point_58(strand):
    if strand.variety == 1:
        return 0
    if strand.variety == 2:
        return strand.size - strand.unlike_pairs // 2 - 2 + strand.ends_unlike
    return strand.size - 3 + strand.ends_unlike


class Tolls(unittest.TestCase):
    """Point 58."""

    def check_orders(self, strand):
        least, greatest = least_toll(strand), greatest_toll(strand)
        for toll in range(least, greatest + 1):
            order = order_with_toll(strand, toll)
            self.assertIsInstance(order, list)
            self.assertEqual(sorted(order), list(range(1, strand.size - 1)))
            self.assertEqual(toll_of(strand.kinds, order), toll)
        for toll in (least - 1, greatest + 1, -10 ** 99, 10 ** 99):
            self.assertEqual(refusal(order_with_toll, strand, toll), ("OutOfReach", least, greatest))

    def test_examples(self):
        self.assertEqual((least_toll(STRAND), greatest_toll(STRAND)), (0, 2))
        self.assertEqual((least_toll(strand=Strand([1, 2])), greatest_toll(strand=Strand([1, 2]))), (0, 0))
        self.assertEqual(order_with_toll(strand=Strand([1, 2]), toll=0), [])
        self.assertEqual(refusal(order_with_toll, STRAND, 3), ("OutOfReach", 0, 2))
        self.assertEqual(refusal(order_with_toll, STRAND, -1), ("OutOfReach", 0, 2))
        self.assertEqual(refusal(order_with_toll, Strand([1, 1, 1]), 1), ("OutOfReach", 0, 0))
        distinct = Strand(list(range(24)))
        self.assertEqual((least_toll(distinct), greatest_toll(distinct)), (22, 22))

    def test_against_all_orders(self):
        for strand in all_strands(range(2, 8), 3) + all_strands([6], 6):
            tolls = {marks.count("edge") + marks.count("strife") for _, marks in walked_orders(strand.kinds)}
            self.assertEqual(tolls, set(range(least_toll(strand), greatest_toll(strand) + 1)))

    def test_greatest_tolls(self):
        for strand in all_strands(range(2, 8), 4) + random_strands(58, 24, [1, 2, 2, 3, 3, 5, 24]):
            self.assertEqual(greatest_toll(strand), greatest_by_point_58(strand))

    def test_orders(self):
        for strand in all_strands([2, 3, 5, 6], 3):
            self.check_orders(strand)

    def test_24_beads(self):
        special = [Strand(kinds) for kinds in ([1] * 24, [1, 2] * 12, [1, 2, 3] * 8, [1] * 12 + [2] * 12)]
        for strand in special + random_strands(59, 24, [2, 3, 4, 24]):
            self.check_orders(strand)


if __name__ == "__main__":
    unittest.main()
