import random
import unittest

from beadmoot.logs import LOG_MARKS, Log, fits, log_of, order_of
from beadmoot.strands import Strand
from tests.helpers import all_orders, all_strands, last_places, plain_log, random_strands, refusal, walk

STRAND = Strand([1, 2, 1, 3, 1])


class Logs(unittest.TestCase):
    """Points 70 and 71."""

    def test_marks(self):
        self.assertEqual(LOG_MARKS, ("quiet", "odd", "left", "right", "strife"))

    def test_attributes(self):
        log = Log([(1, "odd"), (2, "odd"), (1, "quiet")], ends_alike=True)
        self.assertEqual(log.entries, ((1, "odd"), (2, "odd"), (1, "quiet")))
        self.assertIs(log.ends_alike, True)
        self.assertEqual(log.size, 5)
        self.assertEqual(list(log), [(1, "odd"), (2, "odd"), (1, "quiet")])
        self.assertIs(Log(((1, "left"),), ends_alike=False).ends_alike, False)
        self.assertIsInstance(Log(entries=[(1, "left")], ends_alike=False).entries, tuple)

    def test_without_entries(self):
        for ends_alike in (True, False):
            log = Log([], ends_alike=ends_alike)
            self.assertEqual((log.entries, log.size, log.ends_alike), ((), 2, ends_alike))
            self.assertEqual(log.tally().counts, (0, 0, 0, 0))
            self.assertEqual(list(log), [])

    def test_tally(self):
        log = Log([(6, "left"), (1, "right"), (2, "strife"), (3, "odd"), (1, "quiet"), (1, "left")], ends_alike=True)
        self.assertEqual(log.tally().counts, (1, 1, 3, 1))

    def test_22_and_23_entries(self):
        self.assertEqual(Log(last_places(22), ends_alike=True).size, 24)
        self.assertEqual(refusal(Log, last_places(23), ends_alike=True), ("BadLog", None))
        self.assertEqual(refusal(Log, [(0, "bad")] * 300, ends_alike=False), ("BadLog", None))
        self.assertEqual(refusal(Log, [(0, "bad")] + last_places(22)[1:], ends_alike=False), ("BadLog", 0))

    def test_bad_entries(self):
        for entries, at in (
                ([(0, "odd")], 0), ([(2, "odd")], 0), ([(-1, "odd")], 0), ([(10 ** 99, "odd")], 0),
                ([(1, "edge")], 0), ([(1, "")], 0), ([(1, "Odd")], 0), ([(1, "l")], 0),
                ([(2, "odd"), (2, "odd")], 1), ([(2, "odd"), (1, "none")], 1), ([(3, "odd"), (1, "x")], 0),
                ([(3, "odd"), (2, "odd"), (2, "odd")], 2), ([(1, "odd"), (3, "odd"), (9, "odd")], 1)):
            for ends_alike in (True, False):
                self.assertEqual(refusal(Log, entries, ends_alike=ends_alike), ("BadLog", at), entries)
        many = last_places(22)
        self.assertEqual(refusal(Log, many[:21] + [(2, "odd")], ends_alike=True), ("BadLog", 21))
        self.assertEqual(refusal(Log, [(23, "odd")] + many[1:], ends_alike=True), ("BadLog", 0))

    def test_the_lists_are_copied(self):
        entries = [(1, "odd"), (1, "left")]
        log = Log(entries, ends_alike=True)
        entries.clear()
        list(log).clear()
        self.assertEqual(log.entries, ((1, "odd"), (1, "left")))
        self.assertEqual(log.size, 4)

    def test_ends_alike_by_name_only(self):
        with self.assertRaises(TypeError):
            Log([], True)
        with self.assertRaises(TypeError):
            Log([])


class Orders(unittest.TestCase):
    """Point 72."""

    def test_examples(self):
        log = log_of(STRAND, [1, 3, 2])
        self.assertEqual(log.entries, ((1, "odd"), (2, "odd"), (1, "quiet")))
        self.assertIs(log.ends_alike, True)
        self.assertEqual(log_of(Strand([1, 1, 2]), [1]).entries, ((1, "left"),))
        self.assertEqual(log_of(Strand([1, 2, 2]), [1]).entries, ((1, "right"),))
        self.assertIs(log_of(strand=Strand([1, 2]), order=[]).ends_alike, False)
        self.assertEqual(order_of(log), [1, 3, 2])
        self.assertEqual(order_of(log=Log([], ends_alike=True)), [])

    def test_all_orders(self):
        for strand in all_strands([2, 3, 4, 6], 3):
            for order in all_orders(strand.size):
                log = log_of(strand, order)
                self.assertEqual(log.entries, plain_log(strand.kinds, order))
                self.assertIs(log.ends_alike, strand.kinds[0] == strand.kinds[-1])
                self.assertEqual(log.size, strand.size)
                self.assertEqual(order_of(log), order)
                marks = walk(strand.kinds, order)[0]
                self.assertEqual(log.tally().counts,
                                 tuple(marks.count(word) for word in ("quiet", "odd", "edge", "strife")))
                self.assertIs(fits(log, strand), True)

    def test_24_beads(self):
        chance = random.Random(72)
        for strand in random_strands(72, 24, [1, 2, 3, 24]):
            order = chance.sample(range(1, 23), 22)
            log = log_of(strand, order)
            self.assertEqual(log.entries, plain_log(strand.kinds, order))
            self.assertEqual(order_of(log), order)
            self.assertIs(fits(log, strand), True)

    def test_the_places_alone_tell_the_order(self):
        for order in all_orders(6):
            places = [place for place, _ in plain_log([1] * 6, order)]
            for mark in LOG_MARKS:
                log = Log([(place, mark) for place in places], ends_alike=False)
                self.assertEqual(order_of(log), order)

    def test_errors(self):
        for order, at in (([], 0), ([1, 3], 2), ([1, 1, 3], 1), ([0, 1, 2], 0), ([1, 2, 4], 2), ([1, 2, 3, 1], 3),
                          ([1, 5, 2], 1), ([-1], 0), ((1, 2), 2)):
            self.assertEqual(refusal(log_of, STRAND, order), ("BadRun", at))
        self.assertEqual(refusal(log_of, Strand([1, 2]), [1]), ("BadRun", 0))

    def test_the_order_is_new(self):
        log = log_of(STRAND, [1, 3, 2])
        order_of(log).clear()
        self.assertEqual(order_of(log), [1, 3, 2])
        order = [1, 3, 2]
        log_of(STRAND, order)
        self.assertEqual(order, [1, 3, 2])


class Fits(unittest.TestCase):
    """Point 72: `fits`."""

    def test_examples(self):
        log = log_of(STRAND, [1, 3, 2])
        self.assertIs(fits(log=log, strand=Strand([5, 1, 5, 1, 5])), True)
        self.assertIs(fits(log, Strand([5, 1, 5, 5, 5])), False)
        self.assertIs(fits(log, Strand([1, 2, 1, 3])), False)
        self.assertIs(fits(log, Strand([1, 2, 1, 3, 1, 1])), False)
        self.assertIs(fits(Log([], ends_alike=True), Strand([1, 1])), True)
        self.assertIs(fits(Log([], ends_alike=True), Strand([1, 2])), False)
        self.assertIs(fits(Log([], ends_alike=False), Strand([1, 2])), True)
        self.assertIs(fits(Log([(1, "left")], ends_alike=False), Strand([1, 2, 2])), False)
        self.assertIs(fits(Log([(1, "odd")], ends_alike=False), Strand([1, 2, 1])), False)

    def test_against_all_small_strands(self):
        strands = all_strands([5], 5)
        for strand in strands[::3]:
            for order in all_orders(5):
                log = log_of(strand, order)
                for other in strands:
                    alike = other.kinds[0] == other.kinds[-1]
                    wanted = plain_log(other.kinds, order) == log.entries and alike == log.ends_alike
                    self.assertIs(fits(log, other), wanted)

    def test_a_log_that_fits_no_strand(self):
        log = Log([(1, "odd"), (1, "strife")], ends_alike=True)
        self.assertFalse(any(fits(log, strand) for strand in all_strands([4], 4)))


if __name__ == "__main__":
    unittest.main()
