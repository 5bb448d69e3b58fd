import random
import unittest
from itertools import product

from beadmoot.ranges import check_ranges, ranges
from beadmoot.strands import Strand
from tests.helpers import all_orders, all_strands, plain_mark, random_strands, refusal, walk

STRAND = Strand([1, 2, 1, 3, 1])
EXAMPLE = {
    (0, 1): ((0, 0, 0),), (0, 2): ((0, 0, 0),), (0, 3): ((0, 1, 1), (2, 0, 0)), (0, 4): ((0, 0, 1), (2, 0, 0)),
    (1, 2): ((0, 0, 0),), (1, 3): ((1, 0, 0),), (1, 4): ((0, 1, 1), (2, 0, 0)),
    (2, 3): ((0, 0, 0),), (2, 4): ((0, 0, 0),), (3, 4): ((0, 0, 0),),
}


def spans_of(size):
    return [(i, j) for i in range(size) for j in range(i + 1, size)]


def walked_numbers(kinds):
    """Return the pairs (strife, edges) of all orders, walked one by one."""
    found = set()
    for order in all_orders(len(kinds)):
        marks = walk(kinds, order)[0]
        found.add((marks.count("strife"), marks.count("edge")))
    return found


def numbers_of(entries):
    return {(strife, edges) for strife, low, high in entries for edges in range(low, high + 1)}


def covers(entries, strife, *edges):
    return any(s == strife and all(low <= number <= high for number in edges) for s, low, high in entries)


def plain_check(kinds, table):
    """Return what check_ranges must do, by the words of point 42."""
    spans = spans_of(len(kinds))
    for span in spans:
        if span not in table:
            return "BadFloors", span
    for i, j in spans:
        if j == i + 1 and not covers(table[(i, j)], 0, 0):
            return "BadFloors", (i, j)
        for k in range(i + 1, j):
            mark = plain_mark(kinds[i], kinds[k], kinds[j])
            x, y = int(mark == "strife"), int(mark == "edge")
            for (s, low, high), (t, lower, higher) in product(table[(i, k)], table[(k, j)]):
                if not covers(table[(i, j)], s + t + x, low + lower + y, high + higher + y):
                    return "BadFloors", (i, k, j)
    return table[(0, len(kinds) - 1)]


def outcome_of(strand, table):
    return refusal(check_ranges, strand, table) or check_ranges(strand, table)


class Ranges(unittest.TestCase):
    """Point 41."""

    def test_example(self):
        self.assertEqual(ranges(STRAND), EXAMPLE)
        self.assertEqual(ranges(strand=Strand([1, 2])), {(0, 1): ((0, 0, 0),)})

    def test_kinds_of_values(self):
        for span, entries in ranges(STRAND).items():
            self.assertIsInstance(span, tuple)
            self.assertIsInstance(entries, tuple)
            self.assertTrue(all(isinstance(entry, tuple) and len(entry) == 3 for entry in entries))

    def test_against_all_ways(self):
        for strand in all_strands(range(2, 8), 3) + all_strands([4, 5, 6], 6):
            whole = ranges(strand)[(0, strand.size - 1)]
            found = walked_numbers(strand.kinds)
            self.assertEqual(numbers_of(whole), found, strand.kinds)
            self.assertEqual([entry[0] for entry in whole], sorted({strife for strife, _ in found}))

    def test_each_span_is_a_strand_by_itself(self):
        for strand in all_strands([6], 3) + random_strands(41, 24, [2, 3, 5]):
            table = ranges(strand)
            for i, j in spans_of(strand.size)[::7]:
                part = ranges(Strand(strand.kinds[i:j + 1]))
                self.assertEqual(table[(i, j)], part[(0, j - i)])

    def test_keys_and_entries_ascend(self):
        for strand in [Strand([1, 2]), *random_strands(41, 24, [1, 2, 3, 24])]:
            table = ranges(strand)
            self.assertEqual(list(table), spans_of(strand.size))
            for entries in table.values():
                self.assertEqual(list(entries), sorted(entries))
                self.assertLessEqual(len(entries), 12)
                self.assertTrue(all(low <= high for _, low, high in entries))

    def test_edges(self):
        self.assertEqual(set(ranges(Strand([5] * 24)).values()), {((0, 0, 0),)})
        self.assertEqual(ranges(Strand(list(range(24))))[(0, 23)], ((22, 0, 0),))
        self.assertEqual(ranges(Strand([1] * 12 + [2] * 12))[(0, 23)], ((0, 2, 22),))

    def test_all_numbers_between_are_possible(self):
        for strand in random_strands(42, 24, [2, 3, 3, 4]):
            sets = {}
            for width in range(1, 24):
                for i in range(24 - width):
                    sets[(i, i + width)] = self.numbers(strand, sets, i, i + width)
            for span, entries in ranges(strand).items():
                self.assertEqual(numbers_of(entries), sets[span])

    def numbers(self, strand, sets, i, j):
        if j == i + 1:
            return {(0, 0)}
        found = set()
        for k in range(i + 1, j):
            mark = plain_mark(strand.kinds[i], strand.kinds[k], strand.kinds[j])
            for (s, e), (t, f) in product(sets[(i, k)], sets[(k, j)]):
                found.add((s + t + (mark == "strife"), e + f + (mark == "edge")))
        return found

    def test_new_each_time(self):
        ranges(STRAND).clear()
        self.assertEqual(ranges(STRAND), EXAMPLE)


class Checking(unittest.TestCase):
    """Point 42."""

    def test_valid_tables(self):
        self.assertEqual(check_ranges(STRAND, EXAMPLE), ((0, 0, 1), (2, 0, 0)))
        self.assertEqual(check_ranges(strand=Strand([1, 2]), table={(0, 1): ((0, -3, 4),)}), ((0, -3, 4),))
        for strand in all_strands([2, 3, 5], 3) + random_strands(43, 24, [1, 2, 3, 4, 24]):
            table = ranges(strand)
            self.assertEqual(check_ranges(strand, table), table[(0, strand.size - 1)])

    def test_wider_tables(self):
        top = ((5, 9, 9), (0, -7, 22), (1, 0, 22), (2, -1, 22), (2, 3, 4))
        self.assertEqual(check_ranges(STRAND, {**EXAMPLE, (0, 4): top}), top)

    def test_other_keys_are_ignored(self):
        table = {**EXAMPLE, (4, 4): (), (1, 0): ((9, 9, 0),), (0, 5): (), (-1, 2): ((1, 1, 1),)}
        self.assertEqual(check_ranges(STRAND, table), EXAMPLE[(0, 4)])
        self.assertEqual(refusal(check_ranges, STRAND, {(1, 0): ((0, 0, 0),)}), ("BadFloors", (0, 1)))

    def test_missing_spans(self):
        for missing in EXAMPLE:
            table = {span: entries for span, entries in EXAMPLE.items() if span != missing}
            self.assertEqual(refusal(check_ranges, STRAND, table), ("BadFloors", missing))
        table = {span: () for span in EXAMPLE if span not in ((1, 2), (0, 3))}
        self.assertEqual(refusal(check_ranges, STRAND, table), ("BadFloors", (0, 3)))
        self.assertEqual(refusal(check_ranges, STRAND, {}), ("BadFloors", (0, 1)))

    def test_wrong_entries(self):
        cases = (
            ({(0, 1): ()}, (0, 1)), ({(3, 4): ()}, (3, 4)), ({(3, 4): ((1, 0, 0),)}, (0, 3, 4)),
            ({(1, 2): ((0, 1, 0),)}, (0, 1, 2)), ({(1, 2): ((0, 1, 5),)}, (0, 1, 2)), ({(0, 2): ()}, (0, 1, 2)),
            ({(0, 2): ((0, 1, 1),)}, (0, 1, 2)), ({(0, 3): ((0, 1, 1),)}, (0, 1, 3)),
            ({(0, 3): ((2, 0, 0),)}, (0, 2, 3)), ({(0, 4): ((0, 0, 1),)}, (0, 1, 4)),
            ({(0, 4): ((0, 0, 0), (2, 0, 0))}, (0, 1, 4)), ({(0, 4): ((0, 1, 1), (2, 0, 0))}, (0, 2, 4)),
            ({(0, 4): ((0, 0, 0), (0, 1, 1), (2, 0, 0))}, None), ({(0, 1): ((0, 0, 0), (0, 0, 1))}, (0, 1, 2)),
            ({(3, 4): ((0, 0, 9),)}, (0, 3, 4)), ({(0, 4): (), (1, 2): ()}, (0, 1, 4)),
            ({(1, 4): (), (1, 3): ()}, (1, 2, 3)), ({(1, 4): ()}, (1, 2, 4)),
        )
        for changes, where in cases:
            expected = None if where is None else ("BadFloors", where)
            self.assertEqual(refusal(check_ranges, STRAND, {**EXAMPLE, **changes}), expected, changes)

    def test_no_single_entry_covers_both(self):
        strand = Strand([1, 1, 2, 2])
        table = {**ranges(strand), (0, 1): ((0, 0, 3),)}
        for top, where in ((((0, 1, 2), (0, 3, 6)), (0, 1, 2)), (((0, 1, 4),), None)):
            table[(0, 2)] = top
            table[(0, 3)] = ((0, 1, 9),)
            self.assertEqual(refusal(check_ranges, strand, table), where and ("BadFloors", where))

    def test_an_entry_that_covers_nothing_counts(self):
        strand = Strand([1, 1, 1])
        table = {(0, 1): ((0, 0, 0), (0, 3, 1)), (1, 2): ((0, 0, 0),), (0, 2): ((0, 0, 0),)}
        self.assertEqual(refusal(check_ranges, strand, table), ("BadFloors", (0, 1, 2)))
        table[(0, 2)] = ((0, 3, 1), (0, 0, 0))
        self.assertEqual(refusal(check_ranges, strand, table), ("BadFloors", (0, 1, 2)))
        table[(0, 2)] = ((0, 0, 2), (0, 1, 3))
        self.assertEqual(check_ranges(strand, table), ((0, 0, 2), (0, 1, 3)))
        table[(0, 2)] = ((0, 0, 0), (0, 1, 2))
        self.assertEqual(refusal(check_ranges, strand, table), ("BadFloors", (0, 1, 2)))

    def test_every_entry_narrower_or_left_out(self):
        for strand in all_strands([5], 3):
            table = ranges(strand)
            for span, entries in table.items():
                for at, (strife, low, high) in enumerate(entries):
                    left_out = {**table, span: entries[:at] + entries[at + 1:]}
                    word = refusal(check_ranges, strand, left_out)
                    self.assertEqual((word[0], word[1][0], word[1][-1]), ("BadFloors", *span))
                    for new in ((strife, low + 1, high), (strife, low, high - 1), (strife + 1, low, high)):
                        changed = {**table, span: entries[:at] + (new,) + entries[at + 1:]}
                        self.assertEqual(refusal(check_ranges, strand, changed), plain_check(strand.kinds, changed))
                        self.assertIsNotNone(refusal(check_ranges, strand, changed))

    def test_against_the_words_of_the_point(self):
        chance = random.Random(42)
        for strand in all_strands([4], 3):
            for _ in range(60):
                table = {span: list(entries) for span, entries in ranges(strand).items()}
                for span in chance.sample(sorted(table), 3):
                    table[span].append((chance.randrange(3), chance.randrange(-1, 3), chance.randrange(-1, 4)))
                    chance.shuffle(table[span])
                    if chance.randrange(3) == 0:
                        table[span].pop()
                if chance.randrange(10) == 0:
                    table[(0, 3)] = [(s, -9, 9) for s in range(5)]
                    table[(0, 2)] = table[(1, 3)] = [(s, -3, 5) for s in range(5)]
                table = {span: tuple(entries) for span, entries in table.items()}
                self.assertEqual(outcome_of(strand, table), plain_check(strand.kinds, table))

    def test_a_shown_table_covers_every_order(self):
        chance = random.Random(7)
        shown = 0
        for strand in all_strands([5], 3):
            numbers = walked_numbers(strand.kinds)
            for _ in range(40):
                table = {}
                for span, entries in ranges(strand).items():
                    wider = [(s, low - chance.randrange(2), high + chance.randrange(2)) for s, low, high in entries]
                    table[span] = tuple(wider) if span[1] == 4 and span[0] < 2 else entries
                if refusal(check_ranges, strand, table) is None:
                    shown += 1
                    self.assertLessEqual(numbers, numbers_of(check_ranges(strand, table)))
        self.assertGreater(shown, 0)

    def test_many_entries_and_great_numbers(self):
        strand = Strand(list(range(24)))
        far = 10 ** 99
        entries = tuple([(0, 0, 0)] * 11 + [(22, 0, -far)])
        table = {span: entries for span in spans_of(24)}
        self.assertEqual(refusal(check_ranges, strand, table), ("BadFloors", (0, 1, 2)))
        alike = Strand([1] * 24)
        wide = tuple([(0, 1, 1)] * 11 + [(0, -far, far)])
        self.assertEqual(refusal(check_ranges, alike, {span: wide for span in spans_of(24)}), ("BadFloors", (0, 1, 2)))
        same = tuple([(0, 0, 0)] * 12)
        self.assertEqual(check_ranges(alike, {span: same for span in spans_of(24)}), same)

    def test_the_table_is_not_changed(self):
        table = dict(EXAMPLE)
        check_ranges(STRAND, table)
        self.assertEqual(list(table.items()), list(EXAMPLE.items()))


if __name__ == "__main__":
    unittest.main()
