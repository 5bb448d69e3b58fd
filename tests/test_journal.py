import random
import time
import unittest

from beadmoot.desk import Desk
from beadmoot.journal import read_journal, write_journal
from tests.helpers import refusal
from tests.test_desk import desk_with, random_line, redoable, shown

LINES = ["lay row 1 2 3 1", "coins 4", "take row 1", "grow row 2", "lay next 5 5 5", "take next 1", "take row 3"]
FIRST = "desk 2 0 0 1 1\n"


class Writing(unittest.TestCase):
    """Point 105: `write_journal`."""

    def test_examples(self):
        self.assertEqual(write_journal(Desk()), "desk 0 0 0 1 1\n")
        desk = desk_with(LINES, coins=2)
        text = write_journal(desk=desk)
        self.assertEqual(text, FIRST + "".join(line + "\n" for line in LINES))
        desk = Desk(coins=10 ** 12, quiet=1, odd=10 ** 9, edge=3, strife=4)
        self.assertEqual(write_journal(desk), "desk 1000000000000 1 1000000000 3 4\n")

    def test_only_the_deeds_that_stand(self):
        desk = desk_with(LINES, coins=2)
        desk.undo()
        desk.undo()
        self.assertEqual(write_journal(desk), FIRST + "".join(line + "\n" for line in LINES[:5]))
        while refusal(desk.undo) is None:
            pass
        self.assertEqual(write_journal(desk), FIRST)
        self.assertEqual(len(redoable(desk)), 7)


class Reading(unittest.TestCase):
    """Point 105: `read_journal`."""

    def check(self, desk):
        again = read_journal(write_journal(desk))
        self.assertIsInstance(again, Desk)
        self.assertEqual(shown(again), shown(desk))
        self.assertEqual(write_journal(again), write_journal(desk))
        self.assertEqual(refusal(again.redo), ("NothingToRedo",))
        for line in desk.deeds()[::-1]:
            self.assertEqual(again.undo(), line)
        self.assertEqual(refusal(again.undo), ("NothingToUndo",))

    def test_back_and_forth(self):
        self.check(Desk())
        self.check(Desk(coins=10 ** 12, quiet=10 ** 9, odd=0, edge=10 ** 9, strife=7))
        for many in range(len(LINES) + 1):
            self.check(desk_with(LINES[:many], coins=2))
        desk = desk_with(LINES, coins=2)
        desk.undo()
        self.check(desk)

    def test_random_desks(self):
        chance = random.Random(105)
        for _ in range(40):
            desk = Desk(coins=chance.randrange(20), quiet=chance.randrange(3), odd=chance.randrange(3))
            for _ in range(40):
                refusal(desk.do, random_line(chance))
                if chance.randrange(6) == 0:
                    refusal(desk.undo)
            self.check(desk)

    def test_texts_that_do_not_end_with_a_newline(self):
        for text, line in (("", 1), ("desk 0 0 0 1 1", 1), (FIRST[:-1], 1), (FIRST + "coins 1", 2),
                           (FIRST + "coins 1\ncoins 1", 3), (FIRST + " ", 2), (FIRST + "coins 1\nx", 3),
                           (FIRST + "coins 0\ncoins 1", 2), ("desk\ncoins 1", 1), ("x", 1)):
            self.assertEqual(refusal(read_journal, text), ("BadJournal", line), repr(text))

    def test_bad_first_lines(self):
        for line in ("", "desk", "desk 0 0 0 1", "desk 0 0 0 1 1 1", "desk 0 0 0 1 1 ", " desk 0 0 0 1 1",
                     "desk  0 0 0 1 1", "Desk 0 0 0 1 1", "table 0 0 0 1 1", "desk 00 0 0 1 1", "desk 01 0 0 1 1",
                     "desk -1 0 0 1 1", "desk +1 0 0 1 1", "desk x 0 0 1 1", "desk 0 0 0 1 x", "desk 0 0 0 1 1.0",
                     "desk 1000000000001 0 0 1 1", "desk 10000000000000 0 0 1 1", "desk 0 1000000001 0 1 1",
                     "desk 0 0 1000000001 1 1", "desk 0 0 0 1000000001 1", "desk 0 0 0 1 1000000001",
                     "desk 0 0 0 1 01", "desk 0 0 0 1 -1", "coins 1", "lay row 1 2", "desk 0 0 0 1 " + "1" * 4000):
            self.assertEqual(refusal(read_journal, line + "\n"), ("BadJournal", 1), repr(line))
            self.assertEqual(refusal(read_journal, line + "\nnothing\n"), ("BadJournal", 1))
        self.assertEqual(read_journal(text="desk 1000000000000 1000000000 0 1 1\n").balance(), 10 ** 12)

    def test_bad_later_lines(self):
        for bad in ("", " ", "coins", "coins 0", "coins 01", "coins 1 ", "nothing", "lay row 1 2", "take row 1",
                    "take row 9", "take none 1", "grow row 1000", "lay Row 1 2", "lay new 1", "desk 0 0 0 1 1",
                    "undo", "coins 12345678901234"):
            for at in (3, 5, 7):
                lines = [*LINES[:at], bad, *LINES[at:]]
                text = FIRST + "".join(line + "\n" for line in lines)
                self.assertEqual(refusal(read_journal, text), ("BadJournal", at + 2), repr(bad))
                self.assertEqual(refusal(read_journal, text + bad), ("BadJournal", at + 2))

    def test_a_deed_that_the_purse_cannot_pay(self):
        self.assertIsNone(refusal(read_journal, "desk 1 0 0 1 1\nlay row 1 2 3\ntake row 1\n"))
        self.assertEqual(refusal(read_journal, "desk 0 0 0 1 1\nlay row 1 2 3\ntake row 1\n"), ("BadJournal", 3))

    def test_20000_characters(self):
        text = "desk 0 0 0 1 1\n" + "coins 1\n" * 2498
        self.assertLessEqual(len(text), 20000)
        begin = time.monotonic()
        desk = read_journal(text)
        self.assertEqual((desk.balance(), len(desk.deeds())), (2498, 2498))
        self.assertEqual(refusal(read_journal, text[:-1]), ("BadJournal", 2499))
        text = "desk 99 0 0 1 1\nlay a 1 2 1\n" + "".join(f"take a {at}\ngrow a {at}\n" for at in range(1, 22))
        self.assertEqual(len(read_journal(text).deeds()), 43)
        self.assertLess(time.monotonic() - begin, 5)
        self.assertEqual(refusal(read_journal, "\n" * 20000), ("BadJournal", 1))
        self.assertEqual(refusal(read_journal, "desk 0 0 0 1 1" + "\n" * 19000), ("BadJournal", 2))


if __name__ == "__main__":
    unittest.main()
