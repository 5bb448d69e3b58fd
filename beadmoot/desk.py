"""The desk: rows with names, a purse that pays for their takings, and deeds that can be taken back."""

from beadmoot.errors import (
    BadLine, BadName, BadPrice, DeskFull, MootError, NameTaken, NoSuchRow, NotDone, NothingToRedo, NothingToUndo,
    Refused)
from beadmoot.ledger import Ledger
from beadmoot.parties import book_of
from beadmoot.purses import share_purse
from beadmoot.rows import Row
from beadmoot.spans import least_total
from beadmoot.strands import Strand
from beadmoot.tallies import MARKS, TOP_PRICE, Prices

MOST_ROWS = 12
MOST_LETTERS = 12
MOST_DIGITS = 13


def is_number(word):
    """Tell whether a word is a number in decimal digits, as lines write it."""
    if not 1 <= len(word) <= MOST_DIGITS or not all(["0" <= digit <= "9" for digit in word]):
        return False
    return word == "0" or word[0] != "0"


def numbers_of(words):
    """Return the numbers that words write, or raise BadLine."""
    for word in words:
        if not is_number(word):
            raise BadLine()
    return [int(word) for word in words]


def written(*parts):
    """Return the line with these words and numbers."""
    return " ".join([str(part) for part in parts])


class Desk:
    """Rows with names, one purse and the prices of the marks."""

    def __init__(self, *, coins=0, quiet=0, odd=0, edge=1, strife=1):
        self._ledger = Ledger(coins)
        for word, price in zip(MARKS, (quiet, odd, edge, strife)):
            if not 0 <= price <= TOP_PRICE:
                raise BadPrice(word)
        self._prices = Prices(quiet=quiet, odd=odd, edge=edge, strife=strife)
        self._opening = coins
        self._rows = {}
        # The written forms of the deeds that stand, and of those taken back, the last one taken back at the end.
        self._done = []
        self._undone = []

    @staticmethod
    def is_name(name):
        """Tell whether a string can be the name of a row."""
        return 1 <= len(name) <= MOST_LETTERS and all(["a" <= letter <= "z" for letter in name])

    def balance(self):
        """Return the coins in the purse."""
        return self._ledger.balance()

    def opening(self):
        """Return the coins with which the desk was created."""
        return self._opening

    def prices(self):
        """Return the prices of the marks."""
        return self._prices

    def names(self):
        """Return the names of the rows in the order in which they were laid."""
        return list(self._rows)

    def lay(self, name, kinds):
        """Lay a new row."""
        if not Desk.is_name(name):
            raise BadName(name)
        if name in self._rows:
            raise NameTaken(name)
        if len(self._rows) == MOST_ROWS:
            raise DeskFull()
        strand = Strand(kinds)
        self._rows[name] = Row(strand)
        self._keep(written("lay", name, *strand.kinds))

    def take(self, name, bead):
        """Take a bead of a row, pay for it and return the mark."""
        row = self._row_of(name)
        mark = row.mark(bead)
        prices = self._prices
        self._ledger.pay(name, bead, mark, prices(mark))
        row.take(bead)
        self._keep(written("take", name, bead))
        return mark

    def grow(self, name, kind):
        """Add a bead to a row and return its number."""
        bead = self._row_of(name).grow(kind)
        self._keep(written("grow", name, kind))
        return bead

    def pay_in(self, amount):
        """Add coins to the purse."""
        self._ledger.pay_in(amount)
        self._keep(written("coins", amount))

    def do(self, line):
        """Do the deed that a line writes and return what it returns."""
        words = line.split(" ")
        if words[0] == "lay" and len(words) >= 3:
            return self.lay(words[1], numbers_of(words[2:]))
        if words[0] == "take" and len(words) == 3:
            return self.take(words[1], numbers_of(words[2:])[0])
        if words[0] == "grow" and len(words) == 3:
            return self.grow(words[1], numbers_of(words[2:])[0])
        if words[0] == "coins" and len(words) == 2:
            return self.pay_in(numbers_of(words[1:])[0])
        raise BadLine()

    def undo(self):
        """Take back the last deed that stands and return its written form."""
        if not self._done:
            raise NothingToUndo()
        line = self._done.pop()
        self._undone.append(line)
        words = line.split(" ")
        if words[0] == "lay":
            del self._rows[words[1]]
        if words[0] in ("take", "grow"):
            self._rows[words[1]].undo()
        if words[0] in ("take", "coins"):
            self._ledger.take_back()
        return line

    def redo(self):
        """Do the deed again that was taken back last and return its written form."""
        if not self._undone:
            raise NothingToRedo()
        line = self._undone[-1]
        left = self._undone[:-1]
        self.do(line)
        self._undone = left
        return line

    def deeds(self):
        """Return the written forms of the deeds that stand, in order."""
        return list(self._done)

    def trial(self, lines):
        """Do the deeds of all lines and return what they return, or do none of them."""
        many = len(self._done)
        undone = list(self._undone)
        found = []
        for at, line in enumerate(lines):
            try:
                found.append(self.do(line))
            except MootError:
                while len(self._done) > many:
                    self.undo()
                self._undone = undone
                raise Refused(at)
        return found

    def row(self, name):
        """Return a twin of a row."""
        return self._row_of(name).twin()

    def ledger(self):
        """Return the entries of the payments that stand."""
        return self._ledger.payments()

    def spent(self, name):
        """Return the sum of the prices paid for a row."""
        self._row_of(name)
        return self._ledger.spent(name)

    def least_due(self, name):
        """Return the least price for which a row can be brought to two beads."""
        return least_total(self._row_of(name).rest(), self._prices)

    def book(self, name):
        """Return the book of a row that is done."""
        row = self._row_of(name)
        if not row.is_done():
            raise NotDone()
        return book_of(row.grown(), row.taken)

    def plan(self):
        """Return the least number of beads that can be left in all rows, and the lines of takings that leave them."""
        rows = list(self._rows.values())
        beads, runs = share_purse([row.rest() for row in rows], self._prices, self.balance())
        lines = []
        for name, row, run in zip(list(self._rows), rows, runs):
            standing = row.standing
            lines.extend([written("take", name, standing[at]) for at in run])
        return beads, lines

    def clearable(self):
        """Return the names of the rows that the purse can bring to two beads together, the cheapest ones first."""
        left = self.balance()
        found = []
        for due, _, name in sorted([(self.least_due(name), at, name) for at, name in enumerate(self._rows)]):
            if due > left:
                break
            left = left - due
            found.append(name)
        return found

    def _row_of(self, name):
        if name not in self._rows:
            raise NoSuchRow(name)
        return self._rows[name]

    def _keep(self, line):
        """Remember a deed that was done; those that were taken back before cannot be done again."""
        self._done.append(line)
        self._undone = []
