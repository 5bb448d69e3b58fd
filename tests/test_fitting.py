import random
import unittest
from collections import Counter
from itertools import product

from beadmoot.fitting import book_from_log, count_fits, fit_at, freest, misfit, number_of_fit
from beadmoot.logs import LOG_MARKS, Log, fits, log_of, order_of
from beadmoot.strands import Strand
from tests.helpers import (all_orders, all_strands, book_by_walk, last_places, plain_log, plain_misfit,
                           random_strands, refusal)

EXAMPLE = log_of(Strand([1, 2, 1, 3, 1]), [1, 3, 2])
# The entries of index 1 cannot be read back: odd leaves two unlike pairs behind, quiet needs an alike one.
MISFIT = Log([(2, "odd"), (1, "quiet"), (1, "odd")], ends_alike=True)


def all_logs(size):
    """Return all logs about strands with this many beads."""
    places = product(*[range(1, size - at - 1) for at in range(size - 2)])
    return [Log(list(zip(row, marks)), ends_alike=ends_alike) for row in places
            for marks in product(LOG_MARKS, repeat=size - 2) for ends_alike in (True, False)]


def key_of(log):
    return log.entries, log.ends_alike


def walked_fits(size, many):
    """Return, for each log that fits one, the list of all strands with kinds below many that it fits, all walked."""
    found = {}
    for kinds in product(range(many), repeat=size):
        for order in all_orders(size):
            found.setdefault((plain_log(kinds, order), kinds[0] == kinds[-1]), []).append(kinds)
    return found


class Misfits(unittest.TestCase):
    """Point 73."""

    def test_examples(self):
        self.assertIsNone(misfit(EXAMPLE))
        self.assertEqual(misfit(log=MISFIT), 1)
        self.assertEqual(misfit(Log([(1, "odd")], ends_alike=False)), 0)
        self.assertEqual(misfit(Log([(1, "strife")], ends_alike=True)), 0)
        self.assertEqual(misfit(Log([(1, "odd"), (1, "left")], ends_alike=True)), 1)
        self.assertEqual(misfit(Log([(1, "odd"), (1, "strife")], ends_alike=False)), 0)

    def test_without_entries(self):
        for ends_alike in (True, False):
            self.assertIsNone(misfit(Log([], ends_alike=ends_alike)))

    def test_against_reading_pairs(self):
        for size in (3, 4, 5):
            for log in all_logs(size):
                self.assertEqual(misfit(log), plain_misfit(log), log.entries)

    def test_exactly_the_logs_without_misfit_fit_a_strand(self):
        for size in (2, 3, 4, 5):
            found = walked_fits(size, 3)
            for log in all_logs(size):
                self.assertEqual(misfit(log) is None, key_of(log) in found, log.entries)
            # No fourth kind is needed by any log.
            self.assertEqual(set(walked_fits(size, 4)), set(found))

    def test_22_entries(self):
        chance = random.Random(73)
        for many in range(200):
            entries = [(chance.randrange(1, 23 - at), chance.choice(LOG_MARKS)) for at in range(22)]
            log = Log(entries, ends_alike=many % 2 == 0)
            self.assertEqual(misfit(log), plain_misfit(log))
        for strand in random_strands(73, 24, [1, 2, 3, 24] * 5):
            self.assertIsNone(misfit(log_of(strand, chance.sample(range(1, 23), 22))))
        self.assertIsNone(misfit(Log(last_places(22), ends_alike=True)))
        self.assertEqual(misfit(Log(last_places(22), ends_alike=False)), 21)
        self.assertEqual(misfit(Log([(22, "strife"), *last_places(22)[1:]], ends_alike=True)), 0)


class Counts(unittest.TestCase):
    """Point 74: `count_fits`."""

    def test_examples(self):
        self.assertEqual(count_fits(EXAMPLE, 3), 12)
        self.assertEqual(count_fits(log=EXAMPLE, many=1), 0)
        self.assertEqual(count_fits(EXAMPLE, 1000), 1000 * 999 ** 2)
        self.assertEqual(count_fits(MISFIT, 5), 0)

    def test_without_entries(self):
        for many in (1, 2, 3, 1000, 1001, 10 ** 99):
            self.assertEqual(count_fits(Log([], ends_alike=True), many), many)
            self.assertEqual(count_fits(Log([], ends_alike=False), many), many * (many - 1))

    def test_against_all_strands(self):
        for size, most in ((2, 5), (3, 5), (4, 4), (5, 3)):
            for many in range(1, most + 1):
                found = walked_fits(size, many)
                for log in all_logs(size):
                    self.assertEqual(count_fits(log, many), len(found.get(key_of(log), [])), log.entries)

    def test_the_words_of_the_point(self):
        chance = random.Random(74)
        for strand in random_strands(74, 24, [1, 2, 3, 24]):
            log = log_of(strand, chance.sample(range(1, 23), 22))
            marks = Counter(mark for _, mark in log.entries)
            free = marks["odd"] + strand.ends_unlike
            for many in (1, 2, 3, 4, 1000, 10 ** 12, 10 ** 99):
                wanted = many * (many - 1) ** free * (many - 2) ** marks["strife"]
                self.assertEqual(count_fits(log, many), wanted)


class Numbers(unittest.TestCase):
    """Point 74: `fit_at` and `number_of_fit`."""

    def check(self, log, many, wanted):
        found = [fit_at(log, many, number) for number in range(len(wanted))]
        self.assertEqual(sorted(strand.kinds for strand in found), sorted(wanted))
        for number, strand in enumerate(found):
            self.assertEqual(number_of_fit(log, many, strand), number)
        for number in (-1, len(wanted), -10 ** 99, 10 ** 99):
            self.assertEqual(refusal(fit_at, log, many, number), ("NoSuchNumber", number, len(wanted)))

    def test_example(self):
        found = walked_fits(5, 3)[key_of(EXAMPLE)]
        self.assertEqual(len(found), 12)
        self.check(EXAMPLE, 3, found)
        self.assertIsInstance(fit_at(log=EXAMPLE, many=3, number=0), Strand)
        strand = Strand([0, 1, 0, 2, 0])
        self.assertEqual(fit_at(EXAMPLE, 3, number_of_fit(log=EXAMPLE, many=3, strand=strand)).kinds, strand.kinds)

    def test_all_small_logs(self):
        for size, many in ((2, 1), (2, 4), (3, 1), (3, 2), (3, 4), (4, 1), (4, 2), (4, 3), (5, 3)):
            found = walked_fits(size, many)
            for log in all_logs(size)[::1 if size < 5 else 7]:
                if misfit(log) is None:
                    self.check(log, many, found.get(key_of(log), []))

    def test_1000_kinds_and_more(self):
        log = Log([], ends_alike=False)
        kinds = {fit_at(log, 1000, number).kinds for number in range(0, 999000, 997)}
        self.assertEqual(len(kinds), len(range(0, 999000, 997)))
        self.assertEqual(refusal(fit_at, log, 1000, 999000), ("NoSuchNumber", 999000, 999000))
        # With 1001 kinds, 1000 strands of all alike beads can be told, and one cannot.
        log = Log([(2, "quiet"), (1, "quiet")], ends_alike=True)
        answers = [refusal(fit_at, log, 1001, number) for number in range(1001)]
        self.assertEqual(Counter(answers), {None: 1000, ("BadStrand", 0): 1})
        self.assertEqual(refusal(fit_at, log, 1001, 1001), ("NoSuchNumber", 1001, 1001))
        found = [fit_at(log, 1001, number) for number in range(1001) if answers[number] is None]
        self.assertEqual(len({strand.kinds for strand in found}), 1000)
        for strand in found[::100]:
            self.assertIsNone(answers[number_of_fit(log, 1001, strand)])
            self.assertEqual(fit_at(log, 1001, number_of_fit(log, 1001, strand)).kinds, strand.kinds)

    def test_the_first_bead_with_a_kind_above_999(self):
        log = log_of(Strand([1, 2, 3]), [1])
        self.assertEqual(count_fits(log, 1001), 1001 * 1000 * 999)
        seen = Counter()
        for number in range(0, 1001 * 1000 * 999, 999983):
            seen[refusal(fit_at, log, 1001, number)] += 1
        self.assertLessEqual(set(seen), {None, ("BadStrand", 0), ("BadStrand", 1), ("BadStrand", 2)})
        self.assertEqual(refusal(fit_at, EXAMPLE, 10 ** 99, 10 ** 98), ("BadStrand", 0))

    def test_24_beads_and_numbers_of_many_digits(self):
        chance = random.Random(74)
        for strand in random_strands(74, 24, [1, 2, 3, 1000, 1000]):
            log = log_of(strand, chance.sample(range(1, 23), 22))
            for many in (max(strand.kinds) + 1, 1000, 10 ** 99):
                number = number_of_fit(log, many, strand)
                self.assertEqual(fit_at(log, many, number).kinds, strand.kinds)
            count = count_fits(log, 1000)
            for number in (0, count // 3, count - 1, *[chance.randrange(count) for _ in range(20)]):
                other = fit_at(log, 1000, number)
                self.assertTrue(fits(log, other))
                self.assertEqual(number_of_fit(log, 1000, other), number)
            for number in (-1, count, 10 ** 99):
                if not 0 <= number < count:
                    self.assertEqual(refusal(fit_at, log, 1000, number), ("NoSuchNumber", number, count))

    def test_misfits_and_other_strands(self):
        strand = Strand([1, 2, 1, 3, 1])
        self.assertEqual(refusal(fit_at, MISFIT, 3, -1), ("NoFit", 1))
        self.assertEqual(refusal(number_of_fit, MISFIT, 1, Strand([1, 2])), ("NoFit", 1))
        for many, other in ((3, strand), (1, Strand([0, 1, 0, 2, 0])), (9, Strand([1, 2, 1, 1, 1])),
                            (9, Strand([1, 2, 1, 3])), (9, Strand([1, 2, 1, 3, 1, 1])), (9, Strand([1, 2]))):
            self.assertEqual(refusal(number_of_fit, EXAMPLE, many, other), ("OtherStrand",))
        self.assertIsNone(refusal(number_of_fit, EXAMPLE, 4, strand))
        self.assertEqual(refusal(fit_at, Log([(1, "odd")], ends_alike=True), 1, 0), ("NoSuchNumber", 0, 0))

    def test_equal_logs_have_the_same_numbering(self):
        again = Log(list(EXAMPLE.entries), ends_alike=True)
        for number in range(12):
            self.assertEqual(fit_at(again, 3, number).kinds, fit_at(EXAMPLE, 3, number).kinds)


class Freest(unittest.TestCase):
    """Point 75."""

    def test_examples(self):
        self.assertEqual(book_from_log(EXAMPLE), [(0, 2, 4), (1,), (3,)])
        self.assertEqual(freest(log=EXAMPLE).kinds, (0, 1, 0, 2, 0))
        self.assertEqual(book_from_log(log=Log([], ends_alike=True)), [(0, 1)])
        self.assertEqual(book_from_log(Log([], ends_alike=False)), [(0,), (1,)])
        self.assertEqual(freest(Log([], ends_alike=False)).kinds, (0, 1))

    def test_all_orders(self):
        for strand in all_strands([2, 3, 4, 6], 3):
            for order in all_orders(strand.size):
                log = log_of(strand, order)
                parties = book_from_log(log)
                self.assertEqual(parties, list(book_by_walk(strand.kinds, order)))
                strand_told = freest(log)
                self.assertEqual(plain_log(strand_told.kinds, order), log.entries)
                self.assertEqual([strand_told.kinds[bead] for party in parties for bead in party],
                                 [index for index, party in enumerate(parties) for _ in party])

    def test_24_beads(self):
        chance = random.Random(75)
        for strand in random_strands(75, 24, [1, 2, 3, 24]):
            log = log_of(strand, chance.sample(range(1, 23), 22))
            self.assertEqual(book_from_log(log), list(book_by_walk(strand.kinds, order_of(log))))
            self.assertTrue(fits(log, freest(log)))

    def test_misfits(self):
        self.assertEqual(refusal(book_from_log, MISFIT), ("NoFit", 1))
        self.assertEqual(refusal(freest, MISFIT), ("NoFit", 1))

    def test_the_list_is_new(self):
        book_from_log(EXAMPLE).clear()
        self.assertEqual(book_from_log(EXAMPLE), [(0, 2, 4), (1,), (3,)])


if __name__ == "__main__":
    unittest.main()
