"""Games: two sides that take beads of one row by turns, without quiet takings."""

from beadmoot.errors import QuietMove
from beadmoot.rows import Row


def has_one_stranger(kinds):
    """Tell whether all beads of a row except one inner bead are alike."""
    strangers = [kind for kind in kinds if kind != kinds[0]]
    return kinds[0] == kinds[-1] and len(strangers) == 1


def mover_wins(kinds, stuck_loses):
    """Tell whether the side whose turn it is wins from a row of these kinds."""
    is_odd = len(kinds) % 2 == 1
    if len(set(kinds)) == 1:
        return not stuck_loses
    if stuck_loses:
        return is_odd or has_one_stranger(kinds)
    return not is_odd


class Game:
    """A game on one row; side 0 begins."""

    def __init__(self, strand, *, stuck_loses=True):
        self._board = Row(strand)
        self._stuck_loses = stuck_loses

    @property
    def turn(self):
        """The side whose turn it is."""
        return len(self._board.taken) % 2

    @property
    def standing(self):
        """The standing beads in ascending order."""
        return self._board.standing

    def moves(self):
        """Return the beads that may be taken, in ascending order."""
        return [bead for bead in self._board.standing[1:-1] if self._board.mark(bead) != "quiet"]

    def is_over(self):
        """Tell whether no bead may be taken."""
        return not self.moves()

    def move(self, bead):
        """Take a bead for the side whose turn it is and return the mark of the taking."""
        if self._board.mark(bead) == "quiet":
            raise QuietMove(bead)
        return self._board.take(bead)

    def undo(self):
        """Take back the last move and return its bead."""
        return self._board.undo()[1]

    def winner(self):
        """Return the side that wins from the present row if both sides play as well as possible."""
        wins = mover_wins(self._board.rest().kinds, self._stuck_loses)
        return self.turn if wins else 1 - self.turn

    def winning_moves(self):
        """Return the beads after whose taking the side whose turn it is wins, in ascending order."""
        return [bead for bead in self.moves() if self._wins_by(bead)]

    def _wins_by(self, bead):
        later = self._board.twin()
        later.take(bead)
        return not mover_wins(later.rest().kinds, self._stuck_loses)
