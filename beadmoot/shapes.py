"""Shapes: the ways to group the stretches of a closed strand into a good book, cut into parts.

The stretches are numbered from 0 as the strand lists them. A part is a tuple of a word and the first and
the last stretch that it is about:
- ("party", first, last): all that lies from the first to the last stretch of one party.
- ("tail", first, last): the same from some stretch of a party on.
- ("row", first, last, seen): several such parties side by side, all that stand round one gap, or those
  that stand there behind others. `seen` are the kinds of the others, None if these are three or more.
"""


def seen_after(seen, kind):
    """Return the kinds round a gap if there is one of this kind, too."""
    if seen is None or kind in seen:
        return seen
    return None if len(seen) == 2 else seen + (kind,)


class Shapes:
    """The parts of the good books of a strand, and in how many ways each part can be grouped."""

    def __init__(self, strand):
        stretches = strand.stretches()
        self._kinds = [strand.kinds[stretch[0]] for stretch in stretches]
        self.whole = ("row", 0, len(stretches) - 1, ())
        self._known = {}

    def options(self, part):
        """Return the list of the pairs (cut, parts): where a part can be cut, and the parts that then are left.

        A row is cut behind the last stretch of its first party, a party at the next stretch of its own.
        """
        if part[0] == "row":
            return self._row_options(part[1], part[2], part[3])
        return self._party_options(part[1], part[2])

    def ways(self, part):
        """Return in how many ways a part can be grouped."""
        if part not in self._known:
            self._known[part] = sum([self.ways_of_all(parts) for _, parts in self.options(part)])
        return self._known[part]

    def ways_of_all(self, parts):
        """Return in how many ways several parts can be grouped together."""
        product = 1
        for part in parts:
            product = product * self.ways(part)
        return product

    def _row_options(self, first, last, seen):
        kind = self._kinds[first]
        after = seen_after(seen, kind)
        found = [(cut, [("party", first, cut), ("row", cut + 1, last, after)])
                 for cut in range(first, last) if self._kinds[cut] == kind]
        # A gap with two places is good, a greater one only with three kinds round it.
        if self._kinds[last] == kind and (after is None or len(seen) < 2):
            found.append((last, [("party", first, last)]))
        return found

    def _party_options(self, first, last):
        kind = self._kinds[first]
        if first == last:
            return [(first, [])]
        return [(cut, [("row", first + 1, cut - 1, (kind,)), ("tail", cut, last)])
                for cut in range(first + 1, last + 1) if self._kinds[cut] == kind]
