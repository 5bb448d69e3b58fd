import random
import unittest
from functools import cache

from beadmoot.games import Game
from beadmoot.strands import Strand
from tests.helpers import all_runs, all_strands, plain_mark, random_strands, refusal, walk

EXAMPLE = Strand([1, 2, 1, 3, 1])


def loud_places(kinds):
    """Return the places of a row where a taking is not quiet."""
    return [at for at in range(1, len(kinds) - 1) if plain_mark(*kinds[at - 1:at + 2]) != "quiet"]


@cache
def first_wins(kinds, stuck_loses):
    """Tell whether the side whose turn it is wins, by trying all moves."""
    places = loud_places(kinds)
    if not places:
        return not stuck_loses
    return any(not first_wins(kinds[:at] + kinds[at + 1:], stuck_loses) for at in places)


def games_of(strand, stuck_loses):
    """Return pairs (game, moves): all games that can be reached by moves, with these moves."""
    found = []
    for run in all_runs(strand.size):
        if "quiet" not in walk(strand.kinds, run)[0]:
            game = Game(strand, stuck_loses=stuck_loses)
            for bead in run:
                game.move(bead)
            found.append((game, run))
    return found


class Playing(unittest.TestCase):
    """Point 92."""

    def test_a_new_game(self):
        game = Game(EXAMPLE)
        self.assertEqual((game.turn, game.standing, game.moves()), (0, [0, 1, 2, 3, 4], [1, 2, 3]))
        self.assertIs(game.is_over(), False)
        self.assertEqual(Game(strand=EXAMPLE, stuck_loses=False).turn, 0)
        with self.assertRaises(TypeError):
            Game(EXAMPLE, True)

    def test_moves_and_turns(self):
        game = Game(EXAMPLE)
        self.assertEqual(game.move(2), "strife")
        self.assertEqual((game.turn, game.standing, game.moves()), (1, [0, 1, 3, 4], [1, 3]))
        self.assertEqual(game.move(bead=1), "strife")
        self.assertEqual((game.turn, game.moves()), (0, [3]))
        self.assertEqual(game.move(3), "odd")
        self.assertEqual((game.turn, game.standing, game.moves(), game.is_over()), (1, [0, 4], [], True))

    def test_quiet_moves(self):
        game = Game(Strand([1, 1, 1, 2]))
        self.assertEqual(game.moves(), [2])
        self.assertEqual(refusal(game.move, 1), ("QuietMove", 1))
        self.assertEqual((game.turn, game.standing), (0, [0, 1, 2, 3]))
        self.assertEqual(game.move(2), "edge")
        self.assertEqual(game.moves(), [1])
        game = Game(EXAMPLE)
        game.move(1)
        game.move(3)
        self.assertEqual((game.standing, game.moves(), game.is_over()), ([0, 2, 4], [], True))
        self.assertEqual(refusal(game.move, 2), ("QuietMove", 2))

    def test_over_at_the_beginning(self):
        for kinds in ([1, 2], [1, 1], [5, 5, 5], [3] * 24):
            for stuck_loses in (True, False):
                game = Game(Strand(kinds), stuck_loses=stuck_loses)
                self.assertIs(game.is_over(), True)
                self.assertEqual((game.moves(), game.winning_moves()), ([], []))
                self.assertEqual(game.winner(), 1 if stuck_loses else 0)
        game = Game(Strand([5, 5, 5]))
        self.assertEqual(refusal(game.move, 1), ("QuietMove", 1))

    def test_errors(self):
        game = Game(EXAMPLE)
        game.move(2)
        for bead, wanted in ((5, "NoSuchBead"), (-1, "NoSuchBead"), (10 ** 99, "NoSuchBead"), (2, "GoneBead"),
                             (0, "EndBead"), (4, "EndBead")):
            self.assertEqual(refusal(game.move, bead), (wanted, bead))
        self.assertEqual((game.turn, game.standing), (1, [0, 1, 3, 4]))
        self.assertEqual(game.undo(), 2)

    def test_undo(self):
        for run in ([2, 1, 3], [1, 2], [1, 3], [3]):
            game = Game(EXAMPLE)
            states = []
            for bead in run:
                states.append((game.turn, game.standing, game.moves(), game.winner(), game.winning_moves()))
                game.move(bead)
            for bead in run[::-1]:
                self.assertEqual(game.undo(), bead)
                state = (game.turn, game.standing, game.moves(), game.winner(), game.winning_moves())
                self.assertEqual(state, states.pop())
            self.assertEqual(refusal(game.undo), ("NothingToUndo",))
            self.assertEqual((game.turn, game.standing), (0, [0, 1, 2, 3, 4]))
            self.assertEqual(game.move(2), "strife")

    def test_all_games(self):
        for strand in all_strands([3, 4, 5], 3):
            for game, run in games_of(strand, True):
                standing = [bead for bead in range(strand.size) if bead not in run]
                kinds = [strand.kinds[bead] for bead in standing]
                moves = [standing[at] for at in loud_places(kinds)]
                self.assertEqual((game.turn, game.standing), (len(run) % 2, standing))
                self.assertEqual((game.moves(), game.is_over()), (moves, not moves))

    def test_the_lists_are_new(self):
        game = Game(EXAMPLE)
        for found in (game.standing, game.moves(), game.winning_moves()):
            found.clear()
        self.assertEqual((game.standing, game.moves(), game.winning_moves()), ([0, 1, 2, 3, 4], [1, 2, 3], [2]))


class Winning(unittest.TestCase):
    """Points 93 and 94."""

    def check(self, game, kinds_of, stuck_loses):
        """Compare with all moves tried; kinds_of are the kinds of the whole strand."""
        standing = game.standing
        kinds = tuple(kinds_of[bead] for bead in standing)
        wins = first_wins(kinds, stuck_loses)
        self.assertEqual(game.winner(), game.turn if wins else 1 - game.turn)
        moves = [standing[at] for at in loud_places(kinds) if not first_wins(kinds[:at] + kinds[at + 1:], stuck_loses)]
        self.assertEqual(game.winning_moves(), moves)
        self.assertEqual(moves == [], game.winner() != game.turn or game.is_over())

    def test_example(self):
        game = Game(EXAMPLE)
        self.assertEqual((game.winner(), game.winning_moves()), (0, [2]))

    def test_all_small_strands(self):
        for strand in all_strands(range(2, 9), 3):
            for stuck_loses in (True, False):
                self.check(Game(strand, stuck_loses=stuck_loses), strand.kinds, stuck_loses)
        for strand in all_strands([6], 6):
            for stuck_loses in (True, False):
                self.check(Game(strand, stuck_loses=stuck_loses), strand.kinds, stuck_loses)

    def test_all_rows_behind_moves(self):
        for strand in all_strands([4, 5], 3):
            for stuck_loses in (True, False):
                for game, _ in games_of(strand, stuck_loses):
                    self.check(game, strand.kinds, stuck_loses)

    def test_one_inner_stranger(self):
        for size in (4, 6, 24):
            for at in range(size):
                kinds = [1] * size
                kinds[at] = 2
                game = Game(Strand(kinds))
                self.assertEqual(game.winner(), 0 if 0 < at < size - 1 else 1)
                if 0 < at < size - 1:
                    self.assertIn(at, game.winning_moves())

    def test_24_beads(self):
        chance = random.Random(93)
        for strand in random_strands(93, 24, [2, 3, 24]):
            for stuck_loses in (True, False):
                game = Game(strand, stuck_loses=stuck_loses)
                while not game.is_over():
                    side = game.winner()
                    moves = game.winning_moves()
                    self.assertEqual(bool(moves), side == game.turn)
                    game.move(chance.choice(moves or game.moves()))
                    self.assertEqual(game.winner(), side)
                self.assertEqual(game.winner(), 1 - game.turn if stuck_loses else game.turn)


if __name__ == "__main__":
    unittest.main()
