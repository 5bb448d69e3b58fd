import doctest
import importlib
import inspect
import unittest
from pathlib import Path

from beadmoot.books import Book
from beadmoot.census import census
from beadmoot.chances import mean_tally, order_counts
from beadmoot.changes import least_changes
from beadmoot.desk import Desk
from beadmoot.fitting import count_fits, freest
from beadmoot.games import Game
from beadmoot.gaps import gaps, narrow_gaps
from beadmoot.guide import certain, still
from beadmoot.logs import LOG_MARKS, log_of
from beadmoot.notation import read_log, write_log
from beadmoot.orders import check_run, marks_of
from beadmoot.outcomes import Outcomes
from beadmoot.parties import book_of
from beadmoot.rows import Row
from beadmoot.spans import floors
from beadmoot.strands import Strand
from beadmoot.tallies import MARKS, Prices, Tally, mark_of
from beadmoot.thrift import losses, thrift_order
from beadmoot.tolls import greatest_toll, least_toll
from beadmoot.twokinds import two_kind_numbers
from tests.helpers import refusal

FUNCTIONS = {
    "tallies": ["mark_of(left, bead, right)", "tally_sum(*tallies)"],
    "orders": ["check_run(strand, run, *, whole=False)", "play(strand, run)", "marks_of(strand, run)",
               "tally_of(strand, run)", "total_of(strand, run, prices)", "steps(strand, run)"],
    "rings": ["ring_play(strand, run)"],
    "books": ["is_coarser(book, other)"],
    "gaps": ["gaps(book)", "parties_round(book)", "narrow_gaps(book)", "is_good(book)"],
    "parties": ["parties_by(strand, pairs)", "parties_so_far(row)", "ended_parties(row)", "book_of(strand, order)",
                "ring_book(strand, order)"],
    "playing": ["book_numbers(book)", "play_book(book, *, edges=None)"],
    "mending": ["joins_needed(book)", "mend(book)"],
    "spans": ["floors(strand, prices)", "check_floors(strand, prices, table)", "least_total(strand, prices)",
              "greatest_total(strand, prices)", "least_order(strand, prices)"],
    "ranges": ["ranges(strand)", "check_ranges(strand, table)"],
    "outcomes": ["ring_rows(strand)"],
    "totals": ["totals(strand, prices)", "order_with_total(strand, prices, total)"],
    "census": ["count_books(strand)", "census(strand)", "count_above(book)"],
    "numbering": ["book_at(strand, number)", "number_of(book)"],
    "twokinds": ["two_kind_numbers(strand)", "lone_set(strand)"],
    "chances": ["order_counts(strand)", "mean_tally(strand)"],
    "tolls": ["least_toll(strand)", "greatest_toll(strand)", "order_with_toll(strand, toll)"],
    "thrift": ["losses(row)", "thrift_order(strand)", "first_totals(strand, prices)", "last_totals(strand, prices)"],
    "purses": ["price_to_leave(strand, prices, beads)", "run_to_leave(strand, prices, beads)",
               "leave_curve(strand, prices)", "fewest_left(strand, prices, coins)",
               "share_purse(strands, prices, coins)"],
    "changes": ["is_free(strand)", "free_order(strand)", "least_changes(strand)", "insert_bead(strand, place, kind)",
                "remove_bead(strand, bead)", "change_kind(strand, bead, kind)"],
    "logs": ["log_of(strand, order)", "order_of(log)", "fits(log, strand)"],
    "fitting": ["misfit(log)", "count_fits(log, many)", "fit_at(log, many, number)",
                "number_of_fit(log, many, strand)", "book_from_log(log)", "freest(log)"],
    "notation": ["write_log(log)", "read_log(text)"],
    "words": ["word_misfit(word, *, ends_alike)", "log_from_word(word, *, ends_alike)",
              "count_words(takings, *, ends_alike)", "tally_can_be(tally, *, ends_alike)",
              "strand_with(tally, *, ends_alike)"],
    "guide": ["still(row)", "keepers(row, parties, edges)", "guide(row, parties, edges)", "certain(row, a, b)"],
    "garlands": ["join_strands(strands)", "past(strand, beads)", "ways(strand, beads)",
                 "order_by_way(strand, beads, parties, edges)"],
    "claims": ["judge(strand, claim)", "claim_for(strand, parties, edges)", "least_claim(strand, prices)"],
    "journal": ["write_journal(desk)", "read_journal(text)"],
}
CLASSES = {
    "strands": {"Strand(kinds)": ["stretches(self)", "mirrored(self)", "turned(self, bead)", "__iter__(self)"]},
    "tallies": {
        "Tally(quiet=0, odd=0, edge=0, strife=0)": ["takings(self)", "toll(self)", "ended(self)", "lost(self)",
                                                    "__add__(self, other)", "__iter__(self)"],
        "Prices(*, quiet=0, odd=0, edge=1, strife=1)": ["__call__(self, mark)", "total(self, tally)", "negated(self)"],
    },
    "rows": {"Row(strand)": [
        "take(self, bead)", "mark(self, bead)", "neighbours(self, bead)", "is_done(self)", "take_round(self, beads)",
        "grow(self, kind)", "grown(self)", "rest(self)", "undo(self)", "twin(self)", "meetings(self)", "tally(self)",
        "__iter__(self)", "__contains__(self, bead)"]},
    "rings": {"Ring(strand)": [
        "take(self, bead)", "neighbours(self, bead)", "undo(self)", "is_done(self)", "last_unlike(self)",
        "tally(self)", "meetings(self)", "__contains__(self, bead)"]},
    "books": {"Book(strand, parties)": [
        "party_of(self, bead)", "joined(self, a, b)", "common(self, other)", "__iter__(self)",
        "__contains__(self, pair)"]},
    "outcomes": {"Outcomes(strand)": [
        "reason(self, parties, edges)", "order(self, parties, edges)", "book(self, parties)", "__iter__(self)",
        "__contains__(self, outcome)"]},
    "logs": {"Log(entries, *, ends_alike)": ["tally(self)", "__iter__(self)"]},
    "looks": {"Looks(size)": ["add(self, entries)", "many(self)", "tell(self, a, b)", "classes(self)",
                              "fitting_strand(self)"]},
    "nests": {"Nest(levels)": ["tallies(self, order)", "books(self, order)", "greatest_tolls(self)", "loudest(self)"]},
    "games": {"Game(strand, *, stuck_loses=True)": [
        "moves(self)", "is_over(self)", "move(self, bead)", "undo(self)", "winner(self)", "winning_moves(self)"]},
    "ledger": {"Ledger(coins)": [
        "balance(self)", "pay(self, name, bead, mark, price)", "pay_in(self, amount)", "take_back(self)",
        "payments(self)", "spent(self, name)"]},
    "desk": {"Desk(*, coins=0, quiet=0, odd=0, edge=1, strife=1)": [
        "balance(self)", "prices(self)", "names(self)", "lay(self, name, kinds)", "take(self, name, bead)",
        "grow(self, name, kind)", "pay_in(self, amount)", "do(self, line)", "undo(self)", "redo(self)", "deeds(self)",
        "trial(self, lines)", "row(self, name)", "ledger(self)", "spent(self, name)", "least_due(self, name)",
        "book(self, name)", "plan(self)", "clearable(self)"]},
}
# What the interface does not list, but the package needs.
HELPER = "shapes"


def module(name):
    return importlib.import_module("beadmoot." + name)


class Interface(unittest.TestCase):
    """The interface section: names, arguments and where they are defined."""

    def test_functions(self):
        for name, wanted in FUNCTIONS.items():
            for line in wanted:
                word = line.partition("(")[0]
                found = vars(module(name))[word]
                self.assertEqual(word + str(inspect.signature(found)), line)
                self.assertEqual(found.__module__, "beadmoot." + name)

    def test_classes(self):
        for name, classes in CLASSES.items():
            for line, methods in classes.items():
                word = line.partition("(")[0]
                found = vars(module(name))[word]
                self.assertEqual(word + str(inspect.signature(found)), line)
                self.assertEqual(found.__module__, "beadmoot." + name)
                for method in methods:
                    own = vars(found)[method.partition("(")[0]]
                    self.assertEqual(own.__name__ + str(inspect.signature(own)), method)

    def test_properties_and_static_and_class_methods(self):
        for name, word, other in (("rows", "Row", "taken"), ("rings", "Ring", "taken"), ("games", "Game", "turn")):
            found = vars(vars(module(name))[word])
            self.assertIsInstance(found["standing"], property)
            self.assertIsInstance(found[other], property)
        self.assertIsInstance(vars(Desk)["is_name"], staticmethod)
        self.assertEqual(str(inspect.signature(Desk.is_name)), "(name)")
        self.assertIsInstance(vars(Strand)["from_letters"], classmethod)
        self.assertEqual(str(inspect.signature(Strand.from_letters)), "(text)")

    def test_marks(self):
        self.assertEqual(MARKS, ("quiet", "odd", "edge", "strife"))
        self.assertEqual(LOG_MARKS, ("quiet", "odd", "left", "right", "strife"))

    def test_steps_is_a_generator_function(self):
        self.assertTrue(inspect.isgeneratorfunction(module("orders").steps))

    def test_only_what_is_built_stands_in_the_package(self):
        folder = Path(module("strands").__file__).parent
        names = sorted(path.stem for path in folder.glob("*.py"))
        self.assertEqual(names, sorted({*FUNCTIONS, *CLASSES, HELPER, "errors", "__init__"}))


class Examples(unittest.TestCase):
    """The examples of the interface section and of the points, word by word."""

    def setUp(self):
        self.strand = Strand([1, 2, 1, 3, 1])

    def test_strands(self):
        self.assertEqual(Strand([1, 2, 1]).stretches(), [(2, 0), (1,)])
        self.assertEqual(refusal(Strand, [1, 1000]), ("BadStrand", 1))

    def test_tallies(self):
        self.assertEqual(mark_of(2, 1, 3), "strife")
        self.assertEqual(Prices(quiet=2).total(Tally(1, 4, 2, 1)), 5)

    def test_rows(self):
        row = Row(self.strand)
        row.take(2)
        self.assertEqual(row.undo(), ("take", 2))

    def test_orders(self):
        self.assertEqual(marks_of(self.strand, [2, 1, 3]), ["strife", "strife", "odd"])
        self.assertEqual(marks_of(self.strand, [1, 3, 2]), ["odd", "odd", "quiet"])
        self.assertEqual(refusal(check_run, self.strand, [1, 4]), ("BadRun", 1))

    def test_books_and_gaps(self):
        self.assertEqual(refusal(Book, Strand([1, 2, 1, 2]), [[0, 2], [1, 3]]), ("BadBook", 3, (0, 1, 2, 3)))
        self.assertEqual(gaps(Book(self.strand, [[0, 2, 4], [1], [3]])), [(0, 1), (2, 3)])
        self.assertEqual(narrow_gaps(Book(Strand([1, 2, 1, 2]), [[0], [1], [2], [3]])), [0])

    def test_parties_and_spans(self):
        self.assertEqual(book_of(self.strand, [1, 3, 2]).parties, ((0, 2, 4), (1,), (3,)))
        self.assertEqual(floors(self.strand, Prices())[(0, 3)], 1)

    def test_outcomes(self):
        outcomes = Outcomes(self.strand)
        self.assertEqual(outcomes.rows, ((3, 2, 0, 0, 1), (4, 1, 2, 0, 0)))
        self.assertEqual(outcomes.reason(5, 0), ("many parties", 4))
        self.assertEqual(outcomes.reason(3, 2), ("many edges", 1))
        self.assertEqual(Outcomes(Strand([1, 2])).rows, ((2, 0, 0, 0, 0),))

    def test_census_and_two_kinds(self):
        self.assertEqual(census(self.strand), {(3, 2): 1, (4, 3): 1})
        self.assertEqual(census(Strand([7, 7, 7])), {(1, 0): 1})
        self.assertEqual(two_kind_numbers(Strand([1, 2, 1, 2, 1])), (3, 2, 0, 1, 2))

    def test_chances(self):
        self.assertEqual(order_counts(self.strand), {(3, 0): 2, (3, 1): 2, (4, 0): 2})
        self.assertEqual(mean_tally(self.strand), ((1, 3), (5, 3), (1, 3), (2, 3)))

    def test_tolls_thrift_and_changes(self):
        self.assertEqual((least_toll(self.strand), greatest_toll(self.strand)), (0, 2))
        self.assertEqual(losses(Row(self.strand)), {1: 0, 2: 2, 3: 0})
        self.assertEqual(thrift_order(self.strand), [1, 3, 2])
        self.assertEqual(least_changes(Strand([1, 2, 3, 2, 1])), (1, [2]))

    def test_logs_and_notation(self):
        log = log_of(self.strand, [1, 3, 2])
        self.assertEqual(write_log(log), "alike: 1o 2o 1q")
        self.assertEqual(refusal(read_log, "alike: 1o "), ("BadText", 2))
        self.assertEqual(count_fits(log, 3), 12)
        self.assertEqual(freest(log).kinds, (0, 1, 0, 2, 0))

    def test_guide(self):
        row = Row(self.strand)
        row.take(2)
        self.assertEqual(still(row), [(4, 0, 0)])
        self.assertEqual(certain(Row(self.strand), 0, 2), "open")

    def test_games(self):
        self.assertEqual(Game(self.strand).winning_moves(), [2])
        self.assertEqual(Game(self.strand).winner(), 0)

    def test_desk(self):
        desk = Desk(coins=1)
        laid = desk.lay("row", [1, 2, 3, 1])
        mark = desk.take("row", 1)
        self.assertEqual([desk.balance(), desk.deeds()], [0, ["lay row 1 2 3 1", "take row 1"]])
        self.assertEqual((laid, mark), (None, "strife"))

    def test_readme(self):
        path = Path(__file__).parent.parent / "README.md"
        result = doctest.testfile(str(path), module_relative=False)
        self.assertGreater(result.attempted, 0)
        self.assertEqual(result.failed, 0)


if __name__ == "__main__":
    unittest.main()
