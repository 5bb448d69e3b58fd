import random
import unittest
from itertools import combinations, product

from beadmoot.books import Book
from beadmoot.desk import Desk
from beadmoot.rows import Row
from beadmoot.tallies import MARKS, Prices
from tests.helpers import all_runs, book_by_walk, price_of, random_strands, refusal, walk

TOP = 10 ** 12
NAMES = [letter * 2 for letter in "abcdefghijkl"]


def shown(desk):
    """Return all that a desk tells of its state."""
    prices = desk.prices()
    rows = []
    for name in desk.names():
        row = desk.row(name)
        rows.append((name, row.grown().kinds, row.standing, row.taken, row.meetings(), desk.spent(name)))
    return desk.balance(), [prices(mark) for mark in MARKS], rows, desk.ledger(), desk.deeds()


def redoable(desk):
    """Return the deeds that can be done again, in the order of redo; the desk is as before afterwards."""
    found = []
    while refusal(desk.redo) is None:
        found.append(desk.deeds()[-1])
    for _ in found:
        desk.undo()
    return found


def desk_with(lines, **more):
    desk = Desk(**more)
    for line in lines:
        desk.do(line)
    return desk


class Creation(unittest.TestCase):
    """Point 98."""

    def test_defaults(self):
        desk = Desk()
        self.assertEqual(shown(desk), (0, [0, 0, 1, 1], [], [], []))
        self.assertIsInstance(desk.prices(), Prices)
        desk = Desk(coins=9, quiet=1, odd=2, edge=3, strife=4)
        self.assertEqual(shown(desk), (9, [1, 2, 3, 4], [], [], []))
        with self.assertRaises(TypeError):
            Desk(9)

    def test_bounds(self):
        self.assertEqual(Desk(coins=TOP, quiet=10 ** 9, odd=10 ** 9, edge=0, strife=10 ** 9).balance(), TOP)
        for coins in (-1, TOP + 1, 10 ** 99):
            self.assertEqual(refusal(Desk, coins=coins, quiet=-1), ("BadCoins", coins))
        for word in MARKS:
            for price in (-1, 10 ** 9 + 1, -10 ** 99):
                self.assertEqual(refusal(Desk, **{word: price}), ("BadPrice", word))
        for first, second in combinations(MARKS, 2):
            self.assertEqual(refusal(Desk, **{second: -1, first: 10 ** 9 + 1}), ("BadPrice", first))

    def test_a_desk_without_rows(self):
        desk = Desk(coins=5)
        self.assertEqual((desk.names(), desk.ledger(), desk.deeds(), desk.clearable()), ([], [], [], []))
        self.assertEqual(desk.plan(), (0, []))
        self.assertEqual(desk.trial([]), [])
        self.assertEqual(refusal(desk.undo), ("NothingToUndo",))
        self.assertEqual(refusal(desk.redo), ("NothingToRedo",))
        for call in (desk.row, desk.spent, desk.least_due, desk.book):
            self.assertEqual(refusal(call, "a"), ("NoSuchRow", "a"))


class Deeds(unittest.TestCase):
    """Point 99."""

    def test_names(self):
        for name in ("a", "z", "abcdefghijkl", "row"):
            self.assertIs(Desk.is_name(name), True)
            self.assertIs(Desk().is_name(name=name), True)
        for name in ("", "abcdefghijklm", "A", "aB", "a b", "a1", "a_", "a-b", " a", "a\n", "`", "{", "ab" * 2000):
            self.assertIs(Desk.is_name(name), False)
            self.assertEqual(refusal(Desk().lay, name, []), ("BadName", name))

    def test_lay(self):
        desk = Desk()
        self.assertIsNone(desk.lay("row", [1, 2, 3]))
        self.assertIsNone(desk.lay(name="other", kinds=(0, 999)))
        self.assertEqual((desk.names(), desk.deeds()), (["row", "other"], ["lay row 1 2 3", "lay other 0 999"]))
        self.assertEqual(desk.row("row").grown().kinds, (1, 2, 3))
        self.assertEqual(refusal(desk.lay, "row", [1]), ("NameTaken", "row"))
        self.assertEqual(refusal(desk.lay, "Row", [1]), ("BadName", "Row"))
        for kinds, at in (([], None), ([1], None), ([1] * 25, None), ([1, 1000], 1), ([-1, 1000], 0)):
            self.assertEqual(refusal(desk.lay, "new", kinds), ("BadStrand", at))
        self.assertEqual(desk.names(), ["row", "other"])

    def test_12_and_13_rows(self):
        desk = Desk()
        for name in NAMES:
            desk.lay(name, [1, 2])
        self.assertEqual(desk.names(), NAMES)
        self.assertEqual(refusal(desk.lay, "mm", [1]), ("DeskFull",))
        self.assertEqual(refusal(desk.lay, "aa", [1]), ("NameTaken", "aa"))
        self.assertEqual(refusal(desk.lay, "", [1]), ("BadName", ""))
        desk.undo()
        self.assertIsNone(desk.lay("mm", [1, 2]))
        self.assertEqual(desk.names(), [*NAMES[:11], "mm"])

    def test_the_kinds_are_copied(self):
        kinds = [1, 2, 3]
        desk = Desk()
        desk.lay("row", kinds)
        kinds[1] = 7
        self.assertEqual(desk.row("row").grown().kinds, (1, 2, 3))

    def test_take(self):
        desk = Desk(coins=5, quiet=0, odd=1, edge=2, strife=3)
        desk.lay("row", [1, 2, 3, 1, 1, 1])
        self.assertEqual(desk.take("row", 4), "quiet")
        self.assertEqual((desk.balance(), desk.ledger()), (5, [("row", 4, "quiet", 0)]))
        self.assertEqual(desk.take(name="row", bead=1), "strife")
        self.assertEqual(desk.take("row", 2), "odd")
        self.assertEqual((desk.balance(), desk.spent("row")), (1, 4))
        self.assertEqual(desk.ledger(), [("row", 4, "quiet", 0), ("row", 1, "strife", 3), ("row", 2, "odd", 1)])
        self.assertEqual(desk.deeds()[1:], ["take row 4", "take row 1", "take row 2"])
        self.assertEqual(desk.row("row").standing, [0, 3, 5])

    def test_errors_of_take(self):
        desk = desk_with(["lay row 1 2 3 1", "take row 1"], coins=1)
        before = shown(desk)
        for name, bead, wanted in (("no", 9, ("NoSuchRow", "no")), ("", 1, ("NoSuchRow", "")),
                                   ("row", 4, ("NoSuchBead", 4)), ("row", -1, ("NoSuchBead", -1)),
                                   ("row", 10 ** 99, ("NoSuchBead", 10 ** 99)), ("row", 1, ("GoneBead", 1)),
                                   ("row", 0, ("EndBead", 0)), ("row", 3, ("EndBead", 3))):
            self.assertEqual(refusal(desk.take, name, bead), wanted)
        self.assertEqual(desk.take("row", 2), "odd")
        desk.undo()
        self.assertEqual(shown(desk), before)

    def test_a_purse_that_cannot_pay(self):
        desk = desk_with(["lay row 1 2 3 1 1", "coins 3"], coins=3, quiet=7, odd=6, edge=8, strife=10 ** 9)
        for bead, price in ((1, 10 ** 9), (2, 10 ** 9), (3, 8)):
            self.assertEqual(refusal(desk.take, "row", bead), ("NoCoins", price, 6))
        self.assertEqual((desk.balance(), desk.ledger(), desk.row("row").taken), (6, [], []))
        desk.do("coins 2")
        self.assertEqual(desk.take("row", 3), "edge")
        self.assertEqual(desk.balance(), 0)

    def test_a_payment_of_price_0(self):
        desk = desk_with(["lay row 1 2 1 2", "take row 1"])
        self.assertEqual((desk.balance(), desk.ledger(), desk.spent("row")), (0, [("row", 1, "odd", 0)], 0))
        desk.undo()
        self.assertEqual((desk.ledger(), desk.row("row").taken), ([], []))

    def test_grow(self):
        desk = desk_with(["lay row 1 2"])
        self.assertEqual(desk.grow("row", 3), 2)
        self.assertEqual(desk.grow(name="row", kind=0), 3)
        self.assertEqual((desk.deeds()[1:], desk.row("row").standing), (["grow row 3", "grow row 0"], [0, 1, 2, 3]))
        self.assertEqual(desk.ledger(), [])
        for name, kind, wanted in (("no", -1, ("NoSuchRow", "no")), ("row", -1, ("BadKind", -1)),
                                   ("row", 1000, ("BadKind", 1000))):
            self.assertEqual(refusal(desk.grow, name, kind), wanted)

    def test_a_row_of_24_beads_does_not_grow(self):
        desk = Desk()
        desk.lay("row", [1] * 23)
        self.assertEqual(desk.grow("row", 1), 23)
        self.assertEqual(refusal(desk.grow, "row", 1), ("RowFull",))
        self.assertEqual(refusal(desk.grow, "row", 1000), ("BadKind", 1000))
        desk.take("row", 5)
        self.assertEqual(refusal(desk.grow, "row", 1), ("RowFull",))

    def test_pay_in(self):
        desk = Desk(coins=TOP - 10)
        for amount in (0, -1, 10 ** 9 + 1, 11, 10 ** 99):
            self.assertEqual(refusal(desk.pay_in, amount), ("BadCoins", amount))
        self.assertIsNone(desk.pay_in(amount=10))
        self.assertEqual((desk.balance(), desk.deeds()), (TOP, ["coins 10"]))
        self.assertEqual(refusal(desk.pay_in, 1), ("BadCoins", 1))


class Lines(unittest.TestCase):
    """Point 100."""

    def test_what_a_deed_returns(self):
        desk = Desk(coins=1)
        lines = ["lay row 1 2 3 1", "take row 1", "grow row 0", "coins 1000000000"]
        self.assertEqual([desk.do(line) for line in lines], [None, "strife", 4, None])
        self.assertEqual(desk.deeds(), lines)
        self.assertEqual(desk.do(line="take row 2"), "odd")

    def test_deeds_and_lines_are_the_same(self):
        desk = Desk(coins=1)
        desk.lay("row", [1, 2, 3, 1])
        desk.take("row", 1)
        desk.grow("row", 0)
        desk.pay_in(7)
        self.assertEqual(shown(desk_with(desk.deeds(), coins=1)), shown(desk))

    def test_bad_lines(self):
        desk = desk_with(["lay row 1 2 3 1"], coins=5)
        before = shown(desk)
        for line in ("", " ", "lay", "lay row", "lay ", "take", "take row", "take row 1 2", "take row 1 ", "grow row",
                     "grow row 1 1", "coins", "coins 1 1", "coins ", "coins  1", " coins 1", "coins 1 ", "Lay new 1 2",
                     "LAY new 1 2", "lay new 1 2 ", "lay new  1 2", "lay new 01 2", "lay new 1 +2", "lay new 1 -2",
                     "lay new 1 x", "lay new 1,2", "take row +1", "take row -1", "take row 01", "take row 00",
                     "take row x", "take row ", "take row 1.0", "take row 1_0", "take row 1\n", "grow row 1\n",
                     "grow row 007", "grow row -0", "coins 01", "coins 00", "coins -1", "coins +1", "coins 1e3",
                     "coins 1\n", "coins\n1", "undo", "redo", "pay 1", "coins one", "take  row 1", "lay\nnew 1 2",
                     "x" * 4000, "desk 1 1 1 1 1", "row", "coins 12345678901234", "take row 12345678901234",
                     "lay new 1 12345678901234", "grow row " + "9" * 14, "coins " + "1" * 3000):
            self.assertEqual(refusal(desk.do, line), ("BadLine",), repr(line))
        self.assertEqual(shown(desk), before)

    def test_13_digits_are_a_number(self):
        desk = desk_with(["lay row 1 2 3 1"])
        big = 9999999999999
        self.assertEqual(refusal(desk.do, f"coins {big}"), ("BadCoins", big))
        self.assertEqual(refusal(desk.do, f"take row {big}"), ("NoSuchBead", big))
        self.assertEqual(refusal(desk.do, f"grow row {big}"), ("BadKind", big))
        self.assertEqual(refusal(desk.do, f"lay new 1 {big}"), ("BadStrand", 1))
        self.assertEqual(refusal(desk.do, "coins 0"), ("BadCoins", 0))
        self.assertEqual(refusal(desk.do, "take row 0"), ("EndBead", 0))

    def test_any_word_may_stand_for_a_name(self):
        desk = desk_with(["lay row 1 2 3 1"])
        for line, wanted in (("lay  1 2", ("BadName", "")), ("take  1", ("NoSuchRow", "")),
                             ("grow  1", ("NoSuchRow", "")), ("lay 5 1 2", ("BadName", "5")),
                             ("take Row 1", ("NoSuchRow", "Row")), ("lay a\nb 1", ("BadName", "a\nb")),
                             ("take lay 1", ("NoSuchRow", "lay")), ("lay row 1", ("NameTaken", "row")),
                             ("lay abcdefghijklm 1", ("BadName", "abcdefghijklm")), ("lay new 1", ("BadStrand", None)),
                             ("lay new" + " 1" * 25, ("BadStrand", None)), ("lay new" + " 1" * 1990, ("BadStrand", None))):
            self.assertEqual(refusal(desk.do, line), wanted)
        self.assertIsNone(desk.do("lay lay 1 2"))
        self.assertEqual(desk.names(), ["row", "lay"])

    def test_numbers_come_before_the_deed(self):
        desk = Desk()
        self.assertEqual(refusal(desk.do, "take no x"), ("BadLine",))
        self.assertEqual(refusal(desk.do, "lay NO 1 x"), ("BadLine",))
        self.assertEqual(refusal(desk.do, "grow no 1 1"), ("BadLine",))


class Undoing(unittest.TestCase):
    """Point 101."""

    LINES = ["lay row 1 2 3 1", "coins 4", "take row 1", "grow row 2", "lay next 5 5 5", "take next 1", "take row 3"]

    def test_to_both_ends(self):
        desk = Desk(coins=2)
        states = [shown(desk)]
        for line in self.LINES:
            desk.do(line)
            states.append(shown(desk))
        for _ in range(2):
            for at in range(len(self.LINES) - 1, -1, -1):
                self.assertEqual(desk.undo(), self.LINES[at])
                self.assertEqual(shown(desk), states[at])
            self.assertEqual(refusal(desk.undo), ("NothingToUndo",))
            self.assertEqual(shown(desk), states[0])
            for at, line in enumerate(self.LINES):
                self.assertEqual(desk.redo(), line)
                self.assertEqual(shown(desk), states[at + 1])
            self.assertEqual(refusal(desk.redo), ("NothingToRedo",))
            self.assertEqual(shown(desk), states[-1])

    def test_a_new_deed_behind_an_undo(self):
        desk = desk_with(self.LINES, coins=2)
        desk.undo()
        desk.undo()
        desk.pay_in(1)
        self.assertEqual(refusal(desk.redo), ("NothingToRedo",))
        self.assertEqual(desk.deeds(), self.LINES[:5] + ["coins 1"])
        self.assertEqual(desk.undo(), "coins 1")
        self.assertEqual(desk.redo(), "coins 1")

    def test_every_kind_of_deed_makes_the_others_unavailable(self):
        for line in ("lay new 1 2", "take row 2", "grow row 1", "coins 1"):
            desk = desk_with(["lay row 1 2 3 1", "coins 5"], coins=2)
            desk.undo()
            desk.do(line)
            self.assertEqual(refusal(desk.redo), ("NothingToRedo",))

    def test_a_refused_deed_behind_an_undo(self):
        desk = desk_with(self.LINES, coins=2)
        for _ in range(3):
            desk.undo()
        before = shown(desk)
        for line in ("coins 0", "lay row 1 2", "take row 1", "take no 1", "grow row 1000", "nothing", ""):
            self.assertIsNotNone(refusal(desk.do, line))
        self.assertEqual(shown(desk), before)
        self.assertEqual([desk.redo(), desk.redo(), desk.redo()], self.LINES[4:])

    def test_asking_does_not_change_what_can_be_redone(self):
        desk = desk_with(self.LINES, coins=2)
        desk.undo()
        desk.plan()
        desk.clearable()
        desk.row("row").take(2)
        desk.deeds().clear()
        desk.names().clear()
        desk.ledger().clear()
        self.assertEqual(desk.redo(), self.LINES[-1])

    def test_random_deeds_against_doing_them_anew(self):
        chance = random.Random(101)
        for _ in range(12):
            desk = Desk(coins=6, quiet=1, odd=2)
            done, undone = [], []
            for _ in range(60):
                word = chance.choice(["do", "do", "do", "undo", "undo", "redo"])
                if word == "undo" and done:
                    undone.append(done.pop())
                    self.assertEqual(desk.undo(), undone[-1])
                elif word == "redo" and undone:
                    done.append(undone.pop())
                    self.assertEqual(desk.redo(), done[-1])
                else:
                    line = random_line(chance)
                    if refusal(desk.do, line) is None:
                        done.append(line)
                        undone = []
                self.assertEqual(shown(desk), shown(desk_with(done, coins=6, quiet=1, odd=2)))
            self.assertEqual(redoable(desk), undone[::-1])


def random_line(chance):
    name = chance.choice("abc")
    number = chance.randrange(8)
    return chance.choice([f"lay {name} 1 2 {number} 1 3", f"take {name} {number}", f"take {name} {number}",
                          f"grow {name} {number}", f"coins {number}"])


class Trials(unittest.TestCase):
    """Point 102."""

    def test_without_lines(self):
        desk = desk_with(["lay row 1 2 3", "coins 4"])
        desk.undo()
        before = shown(desk)
        self.assertEqual(desk.trial([]), [])
        self.assertEqual(desk.trial(lines=()), [])
        self.assertEqual(shown(desk), before)
        self.assertEqual(desk.redo(), "coins 4")

    def test_that_is_done(self):
        desk = desk_with(["lay row 1 2 3 1", "coins 4"], coins=1)
        desk.undo()
        lines = ["take row 1", "grow row 3", "lay new 1 1", "coins 2", "take row 2"]
        self.assertEqual(desk.trial(lines), ["strife", 4, None, None, "odd"])
        self.assertEqual(shown(desk), shown(desk_with(["lay row 1 2 3 1", *lines], coins=1)))
        self.assertEqual(refusal(desk.redo), ("NothingToRedo",))
        for line in lines[::-1]:
            self.assertEqual(desk.undo(), line)

    def test_refused_at_each_line(self):
        lines = ["take row 1", "grow row 3", "lay new 1 1", "coins 2", "take row 2"]
        for at in range(len(lines) + 1):
            for bad in ("coins 0", "take row 9", "nothing", "", "lay row 1 2", "take none 1"):
                desk = desk_with(["lay row 1 2 3 1", "coins 4", "coins 5"], coins=1)
                desk.undo()
                desk.undo()
                before = shown(desk)
                self.assertEqual(refusal(desk.trial, [*lines[:at], bad, *lines[at:]]), ("Refused", at))
                self.assertEqual(shown(desk), before)
                self.assertEqual(redoable(desk), ["coins 4", "coins 5"])
                self.assertEqual(desk.undo(), "lay row 1 2 3 1")

    def test_a_purse_that_runs_out(self):
        desk = desk_with(["lay row 1 2 3 4 5"], coins=2)
        before = shown(desk)
        self.assertEqual(refusal(desk.trial, ["take row 1", "take row 2", "take row 3"]), ("Refused", 2))
        self.assertEqual(shown(desk), before)
        self.assertEqual(desk.trial(("take row 1", "take row 2", "coins 1", "take row 3")),
                         ["strife", "strife", None, "strife"])

    def test_the_own_deeds(self):
        desk = desk_with(["coins 1"])
        self.assertEqual(desk.trial(desk.deeds()), [None])
        self.assertEqual(desk.deeds(), ["coins 1", "coins 1"])


class Asking(unittest.TestCase):
    """Point 103."""

    def test_row_is_a_twin(self):
        desk = desk_with(["lay row 1 2 3 1", "take row 1"], coins=1)
        row = desk.row("row")
        self.assertIsInstance(row, Row)
        self.assertEqual((row.standing, row.taken, row.meetings()), ([0, 2, 3], [1], [(0, 1), (1, 2), (2, 3), (0, 2)]))
        row.take(2)
        row.grow(5)
        self.assertEqual(desk.row(name="row").standing, [0, 2, 3])
        row.undo()
        row.undo()
        self.assertEqual(row.undo(), ("take", 1))
        self.assertEqual(desk.row("row").standing, [0, 2, 3])
        self.assertEqual(desk.deeds(), ["lay row 1 2 3 1", "take row 1"])

    def test_spent_and_ledger(self):
        desk = desk_with(["lay a 1 2 3 4", "lay b 1 2 3 4", "take a 1", "take b 2", "take a 2"], coins=9, strife=2)
        self.assertEqual((desk.spent("a"), desk.spent(name="b"), desk.balance()), (4, 2, 3))
        self.assertEqual([entry[0] for entry in desk.ledger()], ["a", "b", "a"])
        self.assertEqual(refusal(desk.spent, "c"), ("NoSuchRow", "c"))
        desk.undo()
        self.assertEqual((desk.spent("a"), desk.balance()), (2, 5))

    def test_least_due(self):
        prices = Prices(quiet=1, odd=2, edge=3, strife=5)
        for kinds in product(range(3), repeat=5):
            desk = Desk(coins=99, quiet=1, odd=2, edge=3, strife=5)
            desk.lay("row", list(kinds))
            for _ in range(4):
                row = desk.row("row")
                left = [kinds[bead] for bead in row.standing]
                costs = [price_of(prices, walk(left, run)[0]) for run in all_runs(len(left))
                         if len(run) == len(left) - 2]
                self.assertEqual(desk.least_due("row"), min(costs))
                if not row.is_done():
                    desk.take("row", row.standing[1])
            self.assertEqual(desk.least_due(name="row"), 0)
        self.assertEqual(refusal(Desk().least_due, "row"), ("NoSuchRow", "row"))

    def test_book(self):
        desk = desk_with(["lay row 1 2 1 3", "take row 1"], coins=9)
        self.assertEqual(refusal(desk.book, "no"), ("NoSuchRow", "no"))
        self.assertEqual(refusal(desk.book, "row"), ("NotDone",))
        desk.do("take row 2")
        book = desk.book(name="row")
        self.assertIsInstance(book, Book)
        self.assertEqual((book.strand.kinds, book.parties), ((1, 2, 1, 3), ((0, 2), (1,), (3,))))
        desk.do("grow row 1")
        self.assertEqual(refusal(desk.book, "row"), ("NotDone",))
        desk.do("take row 3")
        book = desk.book("row")
        self.assertEqual((book.strand.kinds, book.parties), ((1, 2, 1, 3, 1), ((0, 2, 4), (1,), (3,))))
        self.assertEqual(desk_with(["lay row 1 2"]).book("row").parties, ((0,), (1,)))

    def test_books_of_random_rows(self):
        chance = random.Random(103)
        for strand in random_strands(103, 10, [1, 2, 3, 4] * 5):
            desk = Desk(coins=TOP)
            desk.lay("row", list(strand.kinds))
            while not desk.row("row").is_done():
                if chance.randrange(4) == 0 and desk.row("row").grown().size < 24:
                    desk.grow("row", chance.randrange(3))
                desk.take("row", chance.choice(desk.row("row").standing[1:-1]))
            row = desk.row("row")
            book = desk.book("row")
            self.assertEqual(book.strand.kinds, row.grown().kinds)
            self.assertEqual(book.parties, book_by_walk(row.grown().kinds, row.taken))


def curve_of(prices, kinds):
    """Return pairs (beads left, price) of all runs of a small row, all walked."""
    return {(len(kinds) - len(run), price_of(prices, walk(kinds, run)[0])) for run in all_runs(len(kinds))}


class Planning(unittest.TestCase):
    """Point 104."""

    def check_plan(self, desk, wanted=None):
        beads, lines = desk.plan()
        self.assertIsInstance(lines, list)
        if wanted is not None:
            self.assertEqual(beads, wanted)
        before = shown(desk)
        marks = desk.trial(lines)
        self.assertEqual(len(marks), len(lines))
        self.assertTrue(all(line.startswith("take ") for line in lines))
        self.assertEqual(sum(len(desk.row(name).standing) for name in desk.names()), beads)
        for _ in lines:
            desk.undo()
        self.assertEqual(shown(desk), before)

    def test_examples(self):
        desk = desk_with(["lay row 1 2 3 4"], coins=1)
        self.check_plan(desk, 3)
        self.assertEqual(desk.clearable(), [])
        desk.pay_in(1)
        self.check_plan(desk, 2)
        self.assertEqual(desk.clearable(), ["row"])
        self.assertEqual(Desk(coins=5).plan(), (0, []))
        desk = desk_with(["lay row 1 2"])
        self.assertEqual((desk.plan(), desk.clearable()), ((2, []), ["row"]))

    def test_against_all_choices(self):
        chance = random.Random(104)
        for _ in range(60):
            prices = {mark: chance.choice([0, 1, 2, 5]) for mark in MARKS}
            desk = Desk(coins=chance.randrange(14), **prices)
            for name in "abc"[:chance.randrange(1, 4)]:
                desk.lay(name, [chance.randrange(3) for _ in range(chance.randrange(2, 7))])
                if desk.row(name).standing[1:-1] and chance.randrange(2):
                    refusal(desk.take, name, 1)
                    refusal(desk.grow, name, 1)
            rests = {name: desk.row(name).rest().kinds for name in desk.names()}
            sums = {(0, 0)}
            for kinds in rests.values():
                own = curve_of(Prices(**prices), kinds)
                sums = {(beads + more, price + cost) for beads, price in sums for more, cost in own}
            self.check_plan(desk, min(beads for beads, price in sums if price <= desk.balance()))
            self.check_clearable(desk, Prices(**prices), rests)

    def check_clearable(self, desk, prices, rests):
        """Compare with all choices of rows."""
        dues = {name: min(price for beads, price in curve_of(prices, kinds) if beads == 2)
                for name, kinds in rests.items()}
        payable = [many for many in range(len(dues) + 1) for choice in combinations(dues, many)
                   if sum(dues[name] for name in choice) <= desk.balance()]
        found = desk.clearable()
        self.assertEqual(len(found), max(payable))
        self.assertEqual(found, sorted(dues, key=lambda name: dues[name])[:len(found)])

    def test_ties_in_the_order_in_which_they_were_laid(self):
        lines = ["lay c 1 2 3", "lay a 1 2 1", "lay d 4 5 6", "lay b 1 1", "lay e 1 2 3 4"]
        desk = desk_with(lines, coins=2)
        self.assertEqual([desk.least_due(name) for name in desk.names()], [1, 0, 1, 0, 2])
        self.assertEqual(desk.clearable(), ["a", "b", "c", "d"])
        self.assertEqual(desk_with(lines, coins=1).clearable(), ["a", "b", "c"])
        self.assertEqual(desk_with(lines, coins=0).clearable(), ["a", "b"])
        self.assertEqual(desk_with(lines, coins=3).clearable(), ["a", "b", "c", "d"])
        self.assertEqual(desk_with(lines, coins=4).clearable(), ["a", "b", "c", "d", "e"])

    def test_rows_that_are_done(self):
        desk = desk_with(["lay a 1 2 3 4", "lay b 1 2 3", "take b 1"], coins=1)
        self.assertEqual((desk.balance(), desk.clearable()), (0, ["b"]))
        self.check_plan(desk, 6)

    def test_12_rows_of_24_beads(self):
        desk = Desk(coins=70, odd=1)
        for name, strand in zip(NAMES, random_strands(104, 24, [2, 3, 4, 24] * 3)):
            desk.lay(name, list(strand.kinds))
        self.check_plan(desk)
        found = desk.clearable()
        dues = sorted(desk.least_due(name) for name in NAMES)
        self.assertLessEqual(sum(dues[:len(found)]), 70)
        self.assertGreater(sum(dues[:len(found) + 1]), 70)
        desk = Desk(coins=TOP, quiet=10 ** 9, odd=10 ** 9, edge=10 ** 9, strife=10 ** 9)
        for name in NAMES:
            desk.lay(name, list(range(24)))
        self.check_plan(desk, 24)
        self.assertEqual(desk.clearable(), NAMES)

    def test_the_lists_are_new(self):
        desk = desk_with(["lay row 1 2 3"], coins=5)
        desk.plan()[1].clear()
        desk.clearable().clear()
        self.assertEqual((desk.plan(), desk.clearable()), ((2, ["take row 1"]), ["row"]))


class Copies(unittest.TestCase):
    """Points 2 and 98 to 103: what is returned is new."""

    def test_lists(self):
        desk = desk_with(["lay row 1 2 3 1", "take row 1"], coins=1)
        before = shown(desk)
        for found in (desk.names(), desk.deeds(), desk.ledger(), desk.trial([])):
            found.clear()
        self.assertEqual(shown(desk), before)


if __name__ == "__main__":
    unittest.main()
