"""Fitting: the strands that a log fits, found by reading the log back."""

from beadmoot.books import parties_by_label
from beadmoot.errors import NoFit, NoSuchNumber, OtherStrand
from beadmoot.logs import TOLD, beads_told, fits
from beadmoot.strands import Strand


def choices(log):
    """Return a triple (bead, like, others) for each bead, in the order in which reading back puts them.

    The bead gets the kind of the bead `like`; if that is None, it gets any kind that none of `others` has.
    """
    last = log.size - 1
    found = [(0, None, ())]
    found.append((last, 0, ()) if log.ends_alike else (last, None, (0,)))
    threes = beads_told(log.entries, log.size)
    for at in range(len(threes) - 1, -1, -1):
        left, bead, right = threes[at]
        like_left, like_right, across = TOLD[log.entries[at][1]]
        if like_left:
            found.append((bead, left, ()))
        elif like_right:
            found.append((bead, right, ()))
        else:
            found.append((bead, None, (left,) if across else (left, right)))
    return found


def labels_of(log):
    """Return one label for each bead: equal ones where every strand that the log fits has alike beads."""
    labels = {}
    for bead, like, _ in choices(log):
        labels[bead] = bead if like is None else labels[like]
    return [labels[bead] for bead in range(log.size)]


def misfit(log):
    """Return the index of the entry at which reading the log back stops, None if it does not stop."""
    labels = labels_of(log)
    threes = beads_told(log.entries, log.size)
    # A bead gets its label when it is put into the row, so that the labels are right up to the first stop.
    for at in range(len(threes) - 1, -1, -1):
        left, _, right = threes[at]
        across = TOLD[log.entries[at][1]][2]
        if (labels[left] == labels[right]) != across:
            return at
    return None


def check_fit(log):
    """Raise NoFit if no strand fits the log."""
    at = misfit(log)
    if at is not None:
        raise NoFit(at)


def count_fits(log, many):
    """Return the number of strands with kinds below `many` that the log fits."""
    if misfit(log) is not None:
        return 0
    product = 1
    for _, like, others in choices(log):
        if like is None:
            product = product * (many - len(others))
    return product


def kind_by_number(barred, number):
    """Return the kind with this number among the kinds that are not barred."""
    kind = number
    for other in sorted(barred):
        if other <= kind:
            kind += 1
    return kind


def number_by_kind(barred, kind):
    """Return the number of a kind among the kinds that are not barred."""
    return kind - len([other for other in barred if other < kind])


def fit_at(log, many, number):
    """Return the strand with this number among the strands with kinds below `many` that the log fits."""
    check_fit(log)
    count = count_fits(log, many)
    if not 0 <= number < count:
        raise NoSuchNumber(number, count)
    kinds = {}
    left = number
    for bead, like, others in choices(log):
        if like is None:
            left, digit = divmod(left, many - len(others))
            kinds[bead] = kind_by_number([kinds[other] for other in others], digit)
        else:
            kinds[bead] = kinds[like]
    return Strand([kinds[bead] for bead in range(log.size)])


def number_of_fit(log, many, strand):
    """Return the number of a strand among the strands with kinds below `many` that the log fits."""
    check_fit(log)
    if not fits(log, strand) or max(strand.kinds) >= many:
        raise OtherStrand()
    number = 0
    scale = 1
    for bead, like, others in choices(log):
        if like is None:
            digit = number_by_kind([strand.kinds[other] for other in others], strand.kinds[bead])
            number = number + scale * digit
            scale = scale * (many - len(others))
    return number


def book_from_log(log):
    """Return the parties of the book that the order of the log has in every strand that the log fits."""
    check_fit(log)
    return parties_by_label(labels_of(log))


def freest(log):
    """Return the strand in which the kind of each bead is the index of its party."""
    kinds = [0] * log.size
    for index, party in enumerate(book_from_log(log)):
        for bead in party:
            kinds[bead] = index
    return Strand(kinds)
