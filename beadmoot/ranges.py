"""Ranges: the numbers of strife and edge takings with which a span can be cleared."""

from beadmoot.errors import BadFloors
from beadmoot.spans import all_spans, mark_between, narrow_first


def marks_added(strand, i, k, j):
    """Return how many strife and how many edge takings the taking of bead k from between i and j is."""
    mark = mark_between(strand, i, k, j)
    return (1 if mark == "strife" else 0), (1 if mark == "edge" else 0)


def entries_by(strand, table, i, k, j):
    """Return the entries that the entries of the spans (i, k) and (k, j) give if bead k is taken last."""
    x, y = marks_added(strand, i, k, j)
    return [(s + t + x, low + lower + y, high + higher + y)
            for s, low, high in table[(i, k)] for t, lower, higher in table[(k, j)]]


def widest_entries(entries):
    """Return the widest entry (number, low, high) for each number, in ascending order of the numbers."""
    lows = {}
    highs = {}
    for number, low, high in entries:
        lows[number] = min(low, lows.get(number, low))
        highs[number] = max(high, highs.get(number, high))
    return tuple([(number, lows[number], highs[number]) for number in sorted(lows)])


def ranges(strand):
    """Return, for each span, the numbers of strife and edge takings that it can be cleared with."""
    table = {}
    for i, j in narrow_first(strand):
        entries = [entry for k in range(i + 1, j) for entry in entries_by(strand, table, i, k, j)]
        table[(i, j)] = widest_entries(entries) if entries else ((0, 0, 0),)
    return {span: table[span] for span in all_spans(strand)}


def is_covered(entries, strife, edges, others):
    """Tell whether a single entry covers two numbers of edge takings with this number of strife takings."""
    for s, low, high in entries:
        if s == strife and low <= edges <= high and low <= others <= high:
            return True
    return False


def check_ranges_of(strand, table, i, j):
    """Raise BadFloors if the entries of a span cover too little."""
    if j == i + 1 and not is_covered(table[(i, j)], 0, 0, 0):
        raise BadFloors((i, j))
    for k in range(i + 1, j):
        for strife, edges, others in entries_by(strand, table, i, k, j):
            if not is_covered(table[(i, j)], strife, edges, others):
                raise BadFloors((i, k, j))


def check_ranges(strand, table):
    """Return the entries by which a table of somebody else covers every order, or raise BadFloors."""
    for span in all_spans(strand):
        if span not in table:
            raise BadFloors(span)
    for i, j in all_spans(strand):
        check_ranges_of(strand, table, i, j)
    return table[(0, strand.size - 1)]


def run_within(strand, table, i, j, strife, edges):
    """Return a run that clears the span (i, j) with these numbers, which the table of ranges allows."""
    for k in range(i + 1, j):
        x, y = marks_added(strand, i, k, j)
        rest = edges - y
        for s, low, high in table[(i, k)]:
            for t, lower, higher in table[(k, j)]:
                if s + t + x == strife and low + lower <= rest <= high + higher:
                    part = max(low, rest - higher)
                    left = run_within(strand, table, i, k, s, part)
                    return left + run_within(strand, table, k, j, t, rest - part) + [k]
    return []
