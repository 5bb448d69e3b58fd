import random
import time
import unittest
from itertools import combinations, product

from beadmoot.logs import LOG_MARKS
from beadmoot.looks import Looks
from tests.helpers import all_kinds, groups_by, last_places, plain_log, random_strands, refusal

ALIKE = {"quiet": (True, True, True), "odd": (False, False, True), "left": (True, False, False),
         "right": (False, True, False), "strife": (False, False, False)}


def plain_told(size, entries):
    """Return pairs (pair of beads, True for alike) for all that entries tell, by the words of point 81."""
    row = list(range(size))
    found = []
    for place, mark in entries:
        left, bead, right = row[place - 1:place + 2]
        found += zip(((left, bead), (bead, right), (left, right)), ALIKE[mark])
        row.remove(bead)
    return found


def fits_told(kinds, told):
    return all((kinds[a] == kinds[b]) == answer for (a, b), answer in told)


def all_beginnings(size, most):
    """Return the entries of all beginnings of logs with at most so many entries."""
    found = []
    for many in range(most + 1):
        for places in product(*[range(1, size - at - 1) for at in range(many)]):
            found += [list(zip(places, marks)) for marks in product(LOG_MARKS, repeat=many)]
    return found


def looks_of(size, *many):
    looks = Looks(size)
    for entries in many:
        looks.add(entries)
    return looks


def random_look(chance, kinds):
    """Return the entries of some first takings of a strand."""
    order = chance.sample(range(1, len(kinds) - 1), chance.randrange(len(kinds) - 1))
    return list(plain_log(kinds, order))


class Sizes(unittest.TestCase):
    """Points 81 and 82: creation, and the number of looks."""

    def test_sizes(self):
        for size in (2, 3, 24):
            looks = Looks(size)
            self.assertEqual((looks.size, looks.many()), (size, 0))
            self.assertEqual(looks.classes(), [(bead,) for bead in range(size)])
            self.assertEqual(looks.fitting_strand().kinds, tuple(range(size)))
        for size in (1, 25, 0, -1, 10 ** 99):
            self.assertEqual(refusal(Looks, size), ("BadSize", size))
        self.assertEqual(Looks(size=5).size, 5)

    def test_a_look_without_entries(self):
        looks = Looks(2)
        self.assertIsNone(looks.add([]))
        self.assertIsNone(looks.add(entries=()))
        self.assertEqual(looks.many(), 2)
        self.assertEqual(looks.tell(0, 1), "open")
        self.assertEqual(looks.classes(), [(0,), (1,)])

    def test_bad_entries(self):
        looks = looks_of(5, [(1, "odd")])
        for entries, at in (
                ([(1, "odd")] * 4, None), ([(9, "x")] * 300, None), ([(0, "odd")], 0), ([(4, "odd")], 0),
                ([(3, "odd"), (3, "odd")], 1), ([(3, "odd"), (2, "odd"), (2, "odd")], 2), ([(1, "edge")], 0),
                ([(1, "")], 0), ([(1, "odd"), (1, "ODD"), (7, "odd")], 1), ([(-1, "odd")], 0), ([(10 ** 99, "odd")], 0)):
            self.assertEqual(refusal(looks.add, entries), ("BadLog", at), entries)
        self.assertEqual(looks.many(), 1)
        self.assertEqual(looks.classes(), [(0, 2), (1,), (3,), (4,)])
        self.assertEqual(refusal(Looks(2).add, [(1, "quiet")]), ("BadLog", None))
        self.assertEqual(refusal(Looks(3).add, [(1, "quiet")] * 2), ("BadLog", None))
        self.assertIsNone(refusal(Looks(24).add, last_places(22)))
        self.assertEqual(refusal(Looks(24).add, last_places(23)), ("BadLog", None))

    def test_a_bad_entry_comes_before_a_clash(self):
        looks = looks_of(5, [(1, "odd")])
        self.assertEqual(refusal(looks.add, [(1, "strife"), (3, "odd")]), ("BadLog", 1))


class Told(unittest.TestCase):
    """Points 81 and 83: what entries tell."""

    def test_one_entry(self):
        for mark, (left, right, across) in ALIKE.items():
            looks = looks_of(4, [(2, mark)])
            words = {True: "alike", False: "unlike"}
            self.assertEqual(looks.tell(1, 2), words[left])
            self.assertEqual(looks.tell(2, 3), words[right])
            self.assertEqual(looks.tell(a=1, b=3), words[across])
            self.assertEqual(looks.tell(3, 1), words[across])
            self.assertEqual([looks.tell(0, bead) for bead in range(4)], ["alike", "open", "open", "open"])

    def test_the_places_tell_the_beads(self):
        looks = looks_of(6, [(2, "strife"), (3, "quiet")])
        self.assertEqual(looks.classes(), [(0,), (1,), (2,), (3, 4, 5)])
        self.assertEqual([looks.tell(2, bead) for bead in range(6)],
                         ["open", "unlike", "alike", "unlike", "unlike", "unlike"])
        self.assertEqual(looks.fitting_strand().kinds, (0, 1, 2, 3, 3, 3))

    def test_a_bead_and_itself(self):
        looks = looks_of(3, [(1, "strife")])
        self.assertEqual([looks.tell(bead, bead) for bead in range(3)], ["alike"] * 3)

    def test_no_such_bead(self):
        looks = Looks(3)
        for a, b, bead in ((3, 0, 3), (0, 3, 3), (-1, 9, -1), (1, -2, -2), (9, 9, 9)):
            self.assertEqual(refusal(looks.tell, a, b), ("NoSuchBead", bead))

    def test_across_looks(self):
        looks = looks_of(5, [(1, "odd")], [(3, "right")])
        self.assertEqual(looks.classes(), [(0, 2), (1,), (3, 4)])
        self.assertEqual([looks.tell(0, 4), looks.tell(3, 0), looks.tell(1, 4)], ["unlike", "unlike", "open"])
        looks.add([(2, "strife")])
        self.assertEqual(looks.tell(1, 4), "unlike")
        self.assertEqual(looks.many(), 3)

    def test_against_all_strands(self):
        for size, most in ((3, 1), (4, 2), (5, 2)):
            strands = all_kinds(size, size)
            for entries in all_beginnings(size, most):
                told = plain_told(size, entries)
                fitting = [kinds for kinds in strands if fits_told(kinds, told)]
                looks = Looks(size)
                word = refusal(looks.add, entries)
                self.assertEqual(word is None, bool(fitting), entries)
                if fitting:
                    self.check(looks, told, fitting)

    def check(self, looks, told, fitting):
        """Compare all answers with the strands that fit."""
        pairs = [pair for pair, answer in told if answer]
        self.assertEqual(looks.classes(), groups_by([0] * looks.size, pairs))
        for a, b in product(range(looks.size), repeat=2):
            answers = {kinds[a] == kinds[b] for kinds in fitting}
            word = {(True,): "alike", (False,): "unlike", (False, True): "open"}[tuple(sorted(answers))]
            self.assertEqual(looks.tell(a, b), word)
        strand = looks.fitting_strand()
        self.assertTrue(fits_told(strand.kinds, told))
        for index, group in enumerate(looks.classes()):
            self.assertEqual({strand.kinds[bead] for bead in group}, {index})

    def test_several_looks_against_all_strands(self):
        chance = random.Random(83)
        strands = all_kinds(6, 6)
        for _ in range(60):
            kinds = chance.choice(strands)
            told = []
            looks = Looks(6)
            for many in range(1, 4):
                entries = random_look(chance, kinds)
                told += plain_told(6, entries)
                looks.add(entries)
                self.assertEqual(looks.many(), many)
                self.check(looks, told, [other for other in strands if fits_told(other, told)])

    def test_24_beads(self):
        chance = random.Random(84)
        for strand in random_strands(84, 24, [1, 2, 3, 24]):
            looks = Looks(24)
            told = []
            for _ in range(6):
                entries = random_look(chance, strand.kinds)
                looks.add(entries)
                told += plain_told(24, entries)
                self.assertTrue(fits_told(looks.fitting_strand().kinds, told))
            for a, b in combinations(range(24), 2):
                self.assertIn(looks.tell(a, b), ("open", "alike" if strand.kinds[a] == strand.kinds[b] else "unlike"))

    def test_the_lists_are_new(self):
        looks = looks_of(4, [(1, "odd")])
        looks.classes().clear()
        self.assertEqual(looks.classes(), [(0, 2), (1,), (3,)])
        entries = [(2, "odd")]
        looks.add(entries)
        entries.clear()
        self.assertEqual(looks.classes(), [(0, 2), (1, 3)])


class Clashes(unittest.TestCase):
    """Point 82: `Clash`."""

    def check(self, looks, looks_before, entries):
        """Check the chain of a refused look, and that nothing changes behind it."""
        before = (looks.many(), looks.classes(), looks.fitting_strand().kinds,
                  [looks.tell(a, b) for a, b in combinations(range(looks.size), 2)])
        word, chain = refusal(looks.add, entries)
        self.assertEqual(word, "Clash")
        self.assertIsInstance(chain, tuple)
        self.assertGreaterEqual(len(chain), 2)
        told = [one for look in [*looks_before, entries] for one in plain_told(looks.size, look)]
        alike = {frozenset(pair) for pair, answer in told if answer}
        unlike = {frozenset(pair) for pair, answer in told if not answer}
        for pair in zip(chain, chain[1:]):
            self.assertIn(frozenset(pair), alike)
        self.assertIn(frozenset((chain[0], chain[-1])), unlike)
        self.assertEqual(refusal(looks.add, list(entries)), (word, chain))
        self.assertEqual(refusal(looks.add, tuple(entries)), (word, chain))
        self.assertEqual((looks.many(), looks.classes(), looks.fitting_strand().kinds,
                          [looks.tell(a, b) for a, b in combinations(range(looks.size), 2)]), before)

    def test_at_once(self):
        self.check(Looks(4), [], [(1, "odd"), (1, "strife")])
        self.check(Looks(4), [], [(1, "left"), (1, "quiet")])

    def test_with_an_earlier_look(self):
        looks = looks_of(5, [(1, "odd")], [(3, "quiet")])
        self.check(looks, [[(1, "odd")], [(3, "quiet")]], [(1, "strife")])
        self.check(looks, [[(1, "odd")], [(3, "quiet")]], [(3, "odd"), (2, "right")])
        self.assertIsNone(looks.add([(1, "odd")]))
        self.assertEqual(looks.many(), 3)

    def test_a_long_chain(self):
        first = [(1, "quiet"), (1, "quiet"), (1, "quiet")]
        looks = looks_of(8, first, [(6, "quiet"), (5, "quiet")])
        self.check(looks, [first, [(6, "quiet"), (5, "quiet")]], [(2, "strife")])
        looks = looks_of(4, [(1, "quiet")])
        self.check(looks, [[(1, "quiet")]], [(2, "quiet"), (1, "odd")])

    def test_against_random_looks(self):
        chance = random.Random(82)
        seen = 0
        for _ in range(300):
            size = chance.choice([4, 5, 6, 24])
            before = []
            looks = Looks(size)
            for _ in range(4):
                kinds = [chance.randrange(2) for _ in range(size)]
                entries = random_look(chance, kinds)
                word = refusal(looks.add, entries)
                if word is None:
                    before.append(entries)
                else:
                    seen += 1
                    self.check(looks, before, entries)
            self.assertEqual(looks.many(), len(before))
        self.assertGreater(seen, 100)

    def test_many_looks(self):
        chance = random.Random(81)
        kinds = [chance.randrange(3) for _ in range(24)]
        looks = Looks(24)
        begin = time.monotonic()
        for _ in range(300):
            looks.add(random_look(chance, kinds))
        self.assertEqual(looks.many(), 300)
        self.assertLess(time.monotonic() - begin, 10)


if __name__ == "__main__":
    unittest.main()
