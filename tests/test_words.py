import random
import unittest
from itertools import product

from beadmoot.fitting import misfit
from beadmoot.logs import Log
from beadmoot.strands import Strand
from beadmoot.tallies import MARKS, Tally
from beadmoot.words import count_words, log_from_word, strand_with, tally_can_be, word_misfit
from tests.helpers import all_strands, plain_misfit, refusal, walk, walked_orders


def plain_word_misfit(word, ends_alike):
    """Read a word back by the words of point 78: all that is counted are the pairs."""
    alike, unlike = (1, 0) if ends_alike else (0, 1)
    for at in reversed(range(len(word))):
        if (alike if word[at] in ("quiet", "odd") else unlike) == 0:
            return at
        alike, unlike = {"quiet": (alike + 1, unlike), "odd": (alike - 1, unlike + 2), "edge": (alike + 1, unlike),
                         "strife": (alike, unlike + 1)}[word[at]]
    return None


def walked_words(size, variety):
    """Return all pairs (word, ends_alike) of the orders of the strands with this many beads, all walked."""
    return {(tuple(marks), strand.kinds[0] == strand.kinds[-1]) for strand in all_strands([size], variety)
            for _, marks in walked_orders(strand.kinds)}


def all_words(takings):
    return [(word, ends_alike) for word in product(MARKS, repeat=takings) for ends_alike in (True, False)]


class Misfits(unittest.TestCase):
    """Point 78."""

    def test_examples(self):
        self.assertIsNone(word_misfit(["odd", "odd", "quiet"], ends_alike=True))
        self.assertEqual(word_misfit(["odd", "odd", "quiet"], ends_alike=False), 2)
        self.assertEqual(word_misfit(word=["quiet", "odd"], ends_alike=True), 0)
        self.assertEqual(word_misfit(["strife", "odd", "odd"], ends_alike=True), 1)
        self.assertEqual(word_misfit(["edge"], ends_alike=True), 0)
        self.assertIsNone(word_misfit(["edge"], ends_alike=False))

    def test_the_empty_word(self):
        self.assertIsNone(word_misfit([], ends_alike=True))
        self.assertIsNone(word_misfit((), ends_alike=False))

    def test_exactly_the_words_of_orders_are_possible(self):
        for takings, variety in ((0, 2), (1, 3), (2, 3), (3, 3), (4, 3)):
            found = walked_words(takings + 2, variety)
            for word, ends_alike in all_words(takings):
                at = word_misfit(list(word), ends_alike=ends_alike)
                self.assertEqual(at is None, (word, ends_alike) in found, word)
                self.assertEqual(at, plain_word_misfit(word, ends_alike))

    def test_long_words(self):
        chance = random.Random(78)
        for takings in (21, 22, 23, 60, 300):
            for _ in range(60):
                word = chance.choices(MARKS, weights=[5, 4, 3, 3], k=takings)
                for ends_alike in (True, False):
                    self.assertEqual(word_misfit(word, ends_alike=ends_alike), plain_word_misfit(word, ends_alike))
        self.assertIsNone(word_misfit(["quiet"] * 300, ends_alike=True))
        self.assertEqual(word_misfit(["quiet"] * 300, ends_alike=False), 299)
        self.assertEqual(word_misfit(["edge"] + ["quiet"] * 299, ends_alike=True), 0)
        self.assertEqual(word_misfit(["odd"] * 23, ends_alike=True), 21)

    def test_bad_marks_come_first(self):
        for word, bad in ((["left"], "left"), (["quiet", "Odd", "x"], "Odd"), (["", "quiet"], ""),
                          (["edge", "strife", "right"], "right"), (["quiet"] * 299 + ["none"], "none")):
            for ends_alike in (True, False):
                self.assertEqual(refusal(word_misfit, word, ends_alike=ends_alike), ("BadMark", bad))
                self.assertEqual(refusal(log_from_word, word, ends_alike=ends_alike), ("BadMark", bad))

    def test_ends_alike_by_name_only(self):
        for call, worth in ((word_misfit, []), (log_from_word, []), (count_words, 1), (tally_can_be, Tally()),
                            (strand_with, Tally())):
            with self.assertRaises(TypeError):
                call(worth, True)
            with self.assertRaises(TypeError):
                call(worth)


class Logs(unittest.TestCase):
    """Point 79: `log_from_word`."""

    def check(self, word, ends_alike):
        log = log_from_word(list(word), ends_alike=ends_alike)
        self.assertIsInstance(log, Log)
        marks = ["edge" if mark in ("left", "right") else mark for _, mark in log.entries]
        self.assertEqual(marks, list(word))
        self.assertIs(log.ends_alike, ends_alike)
        self.assertIsNone(plain_misfit(log))
        self.assertIsNone(misfit(log))

    def test_all_small_words(self):
        for takings in range(6):
            for word, ends_alike in all_words(takings):
                at = plain_word_misfit(word, ends_alike)
                if at is None:
                    self.check(word, ends_alike)
                else:
                    self.assertEqual(refusal(log_from_word, word, ends_alike=ends_alike), ("NoFit", at))

    def test_22_and_23_marks(self):
        chance = random.Random(79)
        many = 0
        while many < 30:
            word = chance.choices(MARKS, weights=[5, 3, 5, 3], k=22)
            for ends_alike in (True, False):
                if plain_word_misfit(word, ends_alike) is None:
                    many += 1
                    self.check(word, ends_alike)
        self.assertEqual(refusal(log_from_word, ["quiet"] * 23, ends_alike=True), ("BadLog", None))
        self.assertEqual(refusal(log_from_word, ["quiet"] * 23, ends_alike=False), ("NoFit", 22))
        self.assertEqual(refusal(log_from_word, ["edge"] * 300, ends_alike=False), ("BadLog", None))
        self.assertEqual(refusal(log_from_word, ["bad"] * 300, ends_alike=False), ("BadMark", "bad"))

    def test_the_list_is_not_changed(self):
        word = ["odd", "odd", "quiet"]
        log_from_word(word, ends_alike=True)
        self.assertEqual(word, ["odd", "odd", "quiet"])


class Counts(unittest.TestCase):
    """Point 79: `count_words`."""

    def test_examples(self):
        self.assertEqual([count_words(takings, ends_alike=True) for takings in range(3)], [1, 2, 4])
        self.assertEqual([count_words(takings, ends_alike=False) for takings in range(3)], [1, 2, 6])
        self.assertEqual(count_words(takings=0, ends_alike=False), 1)

    def test_all_small_words(self):
        for takings in range(7):
            for ends_alike in (True, False):
                found = [word for word in product(MARKS, repeat=takings)
                         if plain_word_misfit(word, ends_alike) is None]
                self.assertEqual(count_words(takings, ends_alike=ends_alike), len(found))

    def test_22_marks(self):
        # Counted once more by a table over the numbers of pairs alone: (alike, unlike) with alike + unlike = row.
        for ends_alike in (True, False):
            row = [0, 1] if ends_alike else [1, 0]
            for pairs in range(1, 23):
                more = [0] * (pairs + 2)
                for alike, many in enumerate(row):
                    if alike > 0:
                        more[alike + 1] += many
                        more[alike - 1] += many
                    if alike < pairs:
                        more[alike + 1] += many
                        more[alike] += many
                row = more
            self.assertEqual(count_words(22, ends_alike=ends_alike), sum(row))


class Tallies(unittest.TestCase):
    """Point 80."""

    def all_tallies(self, most):
        return [Tally(*counts) for counts in product(range(most + 1), repeat=4) if sum(counts) <= most]

    def check(self, tally, ends_alike):
        strand, order = strand_with(tally, ends_alike=ends_alike)
        self.assertIsInstance(strand, Strand)
        self.assertIsInstance(order, list)
        self.assertEqual(strand.kinds[0] == strand.kinds[-1], ends_alike)
        self.assertEqual(sorted(order), list(range(1, strand.size - 1)))
        marks = walk(strand.kinds, order)[0]
        self.assertEqual(tuple(marks.count(mark) for mark in MARKS), tally.counts)

    def test_against_all_orders(self):
        found = {(tuple(word.count(mark) for mark in MARKS), ends_alike)
                 for size in (2, 3, 4, 5, 6) for word, ends_alike in walked_words(size, 3)}
        found |= {(tuple(word.count(mark) for mark in MARKS), ends_alike) for word, ends_alike in walked_words(5, 5)}
        for tally in self.all_tallies(4):
            for ends_alike in (True, False):
                self.assertEqual(tally_can_be(tally, ends_alike=ends_alike), (tally.counts, ends_alike) in found)

    def test_against_all_words(self):
        found = {(tuple(word.count(mark) for mark in MARKS), ends_alike) for takings in range(8)
                 for word, ends_alike in all_words(takings) if plain_word_misfit(word, ends_alike) is None}
        for tally in self.all_tallies(7):
            for ends_alike in (True, False):
                self.assertIs(tally_can_be(tally, ends_alike=ends_alike), (tally.counts, ends_alike) in found)

    def test_strands_for_all_tallies(self):
        for tally in self.all_tallies(8):
            for ends_alike in (True, False):
                if tally_can_be(tally, ends_alike=ends_alike):
                    self.check(tally, ends_alike)
                else:
                    self.assertEqual(refusal(strand_with, tally, ends_alike=ends_alike), ("NoSuchTally",))

    def test_22_and_23_takings(self):
        chance = random.Random(80)
        seen = 0
        for _ in range(400):
            cuts = sorted(chance.sample(range(25), 3))
            counts = (cuts[0], cuts[1] - cuts[0] - 1, cuts[2] - cuts[1] - 1, 24 - cuts[2])
            for ends_alike in (True, False):
                if tally_can_be(Tally(*counts), ends_alike=ends_alike):
                    seen += 1
                    self.check(Tally(*counts), ends_alike)
        self.assertGreater(seen, 100)
        for counts in ((23, 0, 0, 0), (0, 1, 22, 0), (10 ** 99, 0, 0, 0), (20, 1, 1, 1)):
            for ends_alike in (True, False):
                self.assertIs(tally_can_be(Tally(*counts), ends_alike=ends_alike), False)
                self.assertEqual(refusal(strand_with, Tally(*counts), ends_alike=ends_alike), ("NoSuchTally",))
        for counts, ends_alike in (((22, 0, 0, 0), True), ((0, 1, 21, 0), True), ((0, 0, 0, 22), False),
                                   ((0, 11, 11, 0), False), ((0, 1, 0, 21), True)):
            self.assertIs(tally_can_be(Tally(*counts), ends_alike=ends_alike), True)
            self.check(Tally(*counts), ends_alike)

    def test_negative_counts(self):
        for counts in ((-1, 0, 0, 0), (3, -1, 0, 0), (2, 1, -1, 0), (2, 1, 1, -1), (30, 1, -10, 1), (-10 ** 99, 0, 0, 0)):
            for ends_alike in (True, False):
                self.assertIs(tally_can_be(tally=Tally(*counts), ends_alike=ends_alike), False)
                self.assertEqual(refusal(strand_with, Tally(*counts), ends_alike=ends_alike), ("NoSuchTally",))

    def test_no_takings(self):
        for ends_alike in (True, False):
            self.assertIs(tally_can_be(Tally(), ends_alike=ends_alike), True)
            strand, order = strand_with(tally=Tally(), ends_alike=ends_alike)
            self.assertEqual((strand.size, order, strand.ends_unlike), (2, [], 0 if ends_alike else 1))


if __name__ == "__main__":
    unittest.main()
