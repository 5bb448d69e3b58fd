"""The journal: a desk written as lines, by which it can be brought about again."""

from beadmoot.desk import Desk, is_number
from beadmoot.errors import BadJournal, MootError


def write_journal(desk):
    """Return the journal of a desk."""
    prices = desk.prices()
    first = f"desk {desk.opening()} {prices.quiet} {prices.odd} {prices.edge} {prices.strife}"
    return "".join([line + "\n" for line in [first, *desk.deeds()]])


def desk_of(line):
    """Return the new desk that the first line of a journal writes."""
    words = line.split(" ")
    if words[0] != "desk" or len(words) != 6 or not all([is_number(word) for word in words[1:]]):
        raise BadJournal(1)
    coins, quiet, odd, edge, strife = [int(word) for word in words[1:]]
    try:
        return Desk(coins=coins, quiet=quiet, odd=odd, edge=edge, strife=strife)
    except MootError:
        raise BadJournal(1)


def read_journal(text):
    """Return a desk with which all deeds of a journal were done."""
    lines = text.split("\n")
    # Behind the last newline there must be nothing.
    rest = lines.pop()
    if not lines:
        raise BadJournal(1)
    desk = desk_of(lines[0])
    for at in range(1, len(lines)):
        try:
            desk.do(lines[at])
        except MootError:
            raise BadJournal(at + 1)
    if rest != "":
        raise BadJournal(len(lines) + 1)
    return desk
