"""All errors of the program; each one has its arguments as attributes."""


class MootError(ValueError):
    """The base class of all errors of the program."""


class BadStrand(MootError):
    """The number of beads is wrong (at is None), or the kind of bead `at` is."""

    def __init__(self, at):
        self.at = at


class BadKind(MootError):
    """A kind that is not from 0 to 999."""

    def __init__(self, kind):
        self.kind = kind


class BadMark(MootError):
    """A string that is not one of the four marks."""

    def __init__(self, word):
        self.word = word


class BadPrice(MootError):
    """The price of the mark `word` is out of bounds."""

    def __init__(self, word):
        self.word = word


class NoSuchBead(MootError):
    """The strand has no bead with this number."""

    def __init__(self, bead):
        self.bead = bead


class GoneBead(MootError):
    """The bead was taken before."""

    def __init__(self, bead):
        self.bead = bead


class EndBead(MootError):
    """The bead is an end of the row."""

    def __init__(self, bead):
        self.bead = bead


class NotApart(MootError):
    """Two beads of one round are neighbours."""

    def __init__(self, left, right):
        self.left = left
        self.right = right


class RowFull(MootError):
    """The strand has as many beads as a strand can have."""


class NothingToUndo(MootError):
    """There is no deed to take back."""


class NothingToRedo(MootError):
    """There is no deed to do again."""


class BadRun(MootError):
    """The list is not a run from the index `at` on."""

    def __init__(self, at):
        self.at = at


class TwoLeft(MootError):
    """Only two beads of the ring stand."""


class NotDone(MootError):
    """More than two beads stand."""


class BadBook(MootError):
    """The grouping breaks a rule of books; `where` is the smallest witness."""

    def __init__(self, rule, where):
        self.rule = rule
        self.where = where


class OtherStrand(MootError):
    """The two strands have different kinds."""


class NotGood(MootError):
    """The book is not good; `gap` is the index of its first narrow gap."""

    def __init__(self, gap):
        self.gap = gap


class OutOfReach(MootError):
    """The number is not between the least and the greatest possible one."""

    def __init__(self, least, greatest):
        self.least = least
        self.greatest = greatest


class BadFloors(MootError):
    """A table of spans is not valid at `where`."""

    def __init__(self, where):
        self.where = where


class CannotBe(MootError):
    """The outcome is not possible; the fields tell why."""

    def __init__(self, word, bound):
        self.word = word
        self.bound = bound


class NoSuchTotal(MootError):
    """No order has this price; the fields are the nearest prices."""

    def __init__(self, below, above):
        self.below = below
        self.above = above


class TooManyStretches(MootError):
    """The strand has too many stretches."""

    def __init__(self, count):
        self.count = count


class NoSuchNumber(MootError):
    """The number is below 0 or not below the count."""

    def __init__(self, number, count):
        self.number = number
        self.count = count


class NotTwoKinds(MootError):
    """The strand does not have two kinds."""

    def __init__(self, variety):
        self.variety = variety


class TooManyBeads(MootError):
    """The strand has too many beads."""

    def __init__(self, size):
        self.size = size


class BadLeft(MootError):
    """The list is not a stand of the strand from the index `at` on."""

    def __init__(self, at):
        self.at = at


class NotEnough(MootError):
    """The purse is too small; `least` is the least price."""

    def __init__(self, least):
        self.least = least


class NotFree(MootError):
    """The strand is not free; `least` is its least toll."""

    def __init__(self, least):
        self.least = least


class BadPlace(MootError):
    """No bead can be inserted at this place."""

    def __init__(self, place):
        self.place = place


class BadLog(MootError):
    """The log has too many entries (at is None), or the entry `at` is wrong."""

    def __init__(self, at):
        self.at = at


class NoFit(MootError):
    """No strand fits the log; the entry `at` cannot be read back."""

    def __init__(self, at):
        self.at = at


class BadText(MootError):
    """The word with the index `at` does not have the required form."""

    def __init__(self, at):
        self.at = at


class NoSuchTally(MootError):
    """No order has this tally."""


class BadSize(MootError):
    """A number of beads that no strand can have."""

    def __init__(self, size):
        self.size = size


class Clash(MootError):
    """No strand fits all that was told; the chain of beads shows it."""

    def __init__(self, chain):
        self.chain = chain


class BadJoin(MootError):
    """The strand `at` does not begin as the one before it ends."""

    def __init__(self, at):
        self.at = at


class NotNested(MootError):
    """The levels are not nested."""

    def __init__(self, level, where):
        self.level = level
        self.where = where


class QuietMove(MootError):
    """The taking would be quiet."""

    def __init__(self, bead):
        self.bead = bead


class BadClaim(MootError):
    """The tuple does not have the form of a claim."""


class BadCoins(MootError):
    """A number of coins that is out of bounds."""

    def __init__(self, coins):
        self.coins = coins


class NoCoins(MootError):
    """The price is greater than the balance."""

    def __init__(self, price, coins):
        self.price = price
        self.coins = coins


class BadName(MootError):
    """A string that is not a name of a row."""

    def __init__(self, name):
        self.name = name


class NameTaken(MootError):
    """The desk has a row with this name."""

    def __init__(self, name):
        self.name = name


class DeskFull(MootError):
    """The desk has as many rows as a desk can have."""


class NoSuchRow(MootError):
    """The desk has no row with this name."""

    def __init__(self, name):
        self.name = name


class BadLine(MootError):
    """The line is not the written form of a deed."""


class Refused(MootError):
    """The deed of the line with the index `at` raised an error."""

    def __init__(self, at):
        self.at = at


class BadJournal(MootError):
    """The line with this number, counted from 1, is not as it must be."""

    def __init__(self, line):
        self.line = line
