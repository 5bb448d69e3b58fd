import random
import unittest

from beadmoot.fitting import count_fits, freest
from beadmoot.logs import LOG_MARKS, Log, log_of
from beadmoot.notation import read_log, write_log
from beadmoot.strands import Strand
from tests.helpers import all_orders, all_strands, last_places, refusal

LETTERS = {"quiet": "q", "odd": "o", "left": "l", "right": "r", "strife": "s"}


class Writing(unittest.TestCase):
    """Points 76 and 77: `write_log`."""

    def test_examples(self):
        log = log_of(Strand([1, 2, 1, 3, 1]), [1, 3, 2])
        self.assertEqual(write_log(log), "alike: 1o 2o 1q")
        self.assertEqual(count_fits(log, 3), 12)
        self.assertEqual(freest(log).kinds, (0, 1, 0, 2, 0))

    def test_without_entries(self):
        self.assertEqual(write_log(Log([], ends_alike=True)), "alike:")
        self.assertEqual(write_log(log=Log([], ends_alike=False)), "unlike:")

    def test_all_marks(self):
        log = Log([(5, "quiet"), (1, "odd"), (3, "left"), (2, "right"), (1, "strife")], ends_alike=False)
        self.assertEqual(write_log(log), "unlike: 5q 1o 3l 2r 1s")

    def test_22_entries(self):
        text = write_log(Log(last_places(22, "left"), ends_alike=True))
        self.assertEqual(text, "alike: " + " ".join(f"{place}l" for place in range(22, 0, -1)))


class Reading(unittest.TestCase):
    """Point 76: `read_log`."""

    def check(self, log):
        again = read_log(write_log(log))
        self.assertEqual((again.entries, again.ends_alike, again.size), (log.entries, log.ends_alike, log.size))
        self.assertIsInstance(again.ends_alike, bool)

    def test_back_and_forth(self):
        for strand in all_strands([2, 3, 5], 3):
            for order in all_orders(strand.size):
                self.check(log_of(strand, order))
        chance = random.Random(76)
        for many in (1, 9, 10, 21, 22):
            for ends_alike in (True, False):
                entries = [(chance.randrange(1, many - at + 1), chance.choice(LOG_MARKS)) for at in range(many)]
                self.check(Log(entries, ends_alike=ends_alike))

    def test_examples(self):
        log = read_log(text="unlike: 2s 1l")
        self.assertEqual((log.entries, log.ends_alike), (((2, "strife"), (1, "left")), False))
        self.assertEqual(refusal(read_log, "alike: 1o "), ("BadText", 2))
        self.assertEqual(read_log("alike:").entries, ())

    def test_bad_first_words(self):
        for text in ("", " ", " alike:", "alike", "alike:1o", "alike : 1o", "Alike:", "unlike", "like:", "1o 1q",
                     "alike:\n", "alike:\n1o", "\nalike:", ":", "alike:: 1o", "UNLIKE:", "alikeunlike:", "alike:,"):
            self.assertEqual(refusal(read_log, text), ("BadText", 0), repr(text))

    def test_bad_words(self):
        for word in ("", "1", "o", "01o", "0o", "00o", "23o", "024o", "99o", "100o", "-1o", "+1o", "1oo", "1O", "1x",
                     "1e", "o1", "1o\n", "\n1o", "1\no", "1.o", "1_0o", "1odd", "1,", "1q,", "1:", "22",
                     "10" * 50 + "q", "q", "lr", "1ql"):
            for before in (0, 1, 2):
                text = " ".join(["unlike:", *["1q"] * before, word, "zz"])
                self.assertEqual(refusal(read_log, text), ("BadText", before + 1), repr(text))

    def test_places_0_1_22_23(self):
        self.assertEqual(refusal(read_log, "alike: 0q"), ("BadText", 1))
        self.assertEqual(read_log("alike: 1q").entries, ((1, "quiet"),))
        self.assertEqual(refusal(read_log, "alike: 22q"), ("BadLog", 0))
        self.assertEqual(refusal(read_log, "alike: 23q"), ("BadText", 1))
        full = " ".join(f"{place}s" for place in range(22, 0, -1))
        self.assertEqual(read_log("unlike: " + full).size, 24)

    def test_spaces(self):
        for text, at in (("alike:  1q", 1), ("alike: 1q  ", 2), ("alike: 2q  1q", 2), (" alike: 1q", 0),
                         ("alike: ", 1), ("  ", 0), (" " * 4000, 0), ("alike:" + " " * 3994, 1)):
            self.assertEqual(refusal(read_log, text), ("BadText", at), repr(text[:20]))

    def test_words_are_checked_before_the_log(self):
        self.assertEqual(refusal(read_log, "alike: 9q 1x"), ("BadText", 2))
        self.assertEqual(refusal(read_log, "alike: " + "1q " * 30), ("BadText", 31))
        self.assertEqual(refusal(read_log, "alike: " + "1q " * 30 + "1q"), ("BadLog", None))
        self.assertEqual(refusal(read_log, "alike:" + " 22q" * 22), ("BadLog", 1))
        self.assertEqual(refusal(read_log, "alike:" + " 1q" * 23), ("BadLog", None))
        self.assertEqual(read_log("alike:" + " 1q" * 22).size, 24)
        self.assertEqual(refusal(read_log, "unlike: 1o 2o"), ("BadLog", 1))
        self.assertEqual(refusal(read_log, ("alike:" + " 1q" * 2000)[:4000]), ("BadText", 1332))


if __name__ == "__main__":
    unittest.main()
