import copy
import time
import unittest

from beadmoot.books import Book, is_coarser
from beadmoot.census import census, count_above, count_books
from beadmoot.chances import mean_tally, order_counts
from beadmoot.changes import change_kind, free_order, insert_bead, is_free, least_changes, remove_bead
from beadmoot.claims import claim_for, judge, least_claim
from beadmoot.desk import Desk
from beadmoot.fitting import book_from_log, count_fits, fit_at, freest, misfit, number_of_fit
from beadmoot.games import Game
from beadmoot.gaps import gaps, is_good, narrow_gaps, parties_round
from beadmoot.garlands import join_strands, order_by_way, past, ways
from beadmoot.guide import certain, guide, keepers, still
from beadmoot.journal import read_journal, write_journal
from beadmoot.ledger import Ledger
from beadmoot.logs import Log, fits, log_of, order_of
from beadmoot.looks import Looks
from beadmoot.mending import joins_needed, mend
from beadmoot.nests import Nest
from beadmoot.notation import read_log, write_log
from beadmoot.numbering import book_at, number_of
from beadmoot.orders import check_run, marks_of, play, steps, tally_of, total_of
from beadmoot.outcomes import Outcomes, ring_rows
from beadmoot.parties import book_of, ended_parties, parties_by, parties_so_far, ring_book
from beadmoot.playing import book_numbers, play_book
from beadmoot.purses import fewest_left, leave_curve, price_to_leave, run_to_leave, share_purse
from beadmoot.ranges import check_ranges, ranges
from beadmoot.rings import Ring, ring_play
from beadmoot.rows import Row
from beadmoot.spans import check_floors, floors, greatest_total, least_order, least_total
from beadmoot.strands import Strand
from beadmoot.tallies import Prices, Tally, tally_sum
from beadmoot.thrift import first_totals, last_totals, losses, thrift_order
from beadmoot.tolls import greatest_toll, least_toll, order_with_toll
from beadmoot.totals import order_with_total, totals
from beadmoot.twokinds import lone_set, two_kind_numbers
from beadmoot.words import count_words, log_from_word, strand_with, tally_can_be, word_misfit
from tests.helpers import refusal

KINDS = [1, 2, 1, 3, 1, 2, 3]
ORDER = [3, 1, 5, 2, 4]


def shown(value):
    """Return all attributes of an object, and of the objects in them, in a form that can be compared."""
    if hasattr(value, "__dict__"):
        return value.__class__.__name__, {name: shown(part) for name, part in vars(value).items()}
    if isinstance(value, (list, tuple)):
        return value.__class__.__name__, [shown(part) for part in value]
    if isinstance(value, dict):
        return "dict", [(key, shown(part)) for key, part in value.items()]
    return value


def calls():
    """Return pairs (call, arguments), with new arguments each time, for all that is passed to functions."""
    strand = Strand(KINDS)
    book = book_of(strand, ORDER)
    bad = Book(Strand([1, 2, 1, 2]), [[0], [1], [2], [3]])
    prices = Prices(quiet=-1, odd=2, edge=3, strife=-4)
    row = play(strand, ORDER[:2])
    table = floors(strand, prices)
    outcomes = Outcomes(strand)
    two = Strand([1, 2, 1, 1, 2, 1, 2])
    log = log_of(strand, ORDER)
    entries = [(2, "odd"), (2, "left"), (1, "right")]
    return [
        (Strand, [KINDS[:]]), (strand.stretches, []), (strand.mirrored, []), (strand.turned, [3]),
        (tally_sum, [Tally(1), Tally(0, 1)]), (prices.total, [Tally(1, 2, 3, 4)]), (prices.negated, []),
        (Row(strand).take_round, [[5, 3, 1]]), (Row, [strand]), (Ring, [strand]),
        (check_run, [strand, ORDER[:]]), (play, [strand, ORDER[:]]), (marks_of, [strand, ORDER[:]]),
        (tally_of, [strand, ORDER[:]]), (total_of, [strand, ORDER[:], prices]),
        (lambda *rest: list(steps(*rest)), [strand, ORDER[:]]), (ring_play, [strand, [0, 6, 2]]),
        (Book, [strand, [list(party) for party in book.parties]]), (book.joined, [0, 2]), (book.common, [book]),
        (is_coarser, [book, book]), (gaps, [book]), (parties_round, [book]), (narrow_gaps, [bad]), (is_good, [bad]),
        (parties_by, [strand, [(0, 2), (2, 4)]]), (parties_so_far, [row]), (ended_parties, [row]),
        (book_of, [strand, ORDER[:]]), (ring_book, [strand, [0, 6, 2, 3, 4]]), (book_numbers, [book]),
        (play_book, [book]), (joins_needed, [bad]), (mend, [bad]), (floors, [strand, prices]),
        (check_floors, [strand, prices, table]), (least_total, [strand, prices]), (greatest_total, [strand, prices]),
        (least_order, [strand, prices]),
        (ranges, [strand]), (check_ranges, [strand, ranges(strand)]), (Outcomes, [strand]),
        (outcomes.reason, [9, 0]), (outcomes.order, [5, 1]), (outcomes.book, [5]), (outcomes.__contains__, [(5, 1)]),
        (list, [outcomes]), (ring_rows, [strand]), (totals, [strand, prices]), (order_with_total, [strand, prices, 2]),
        (count_books, [strand]), (census, [strand]), (count_above, [book]), (book_at, [strand, 1]),
        (number_of, [book]), (two_kind_numbers, [two]), (lone_set, [two]),
        (order_counts, [strand]), (mean_tally, [strand]), (least_toll, [strand]), (greatest_toll, [strand]),
        (order_with_toll, [strand, 3]), (losses, [row]), (thrift_order, [strand]), (first_totals, [strand, prices]),
        (last_totals, [strand, prices]), (price_to_leave, [strand, prices, [0, 2, 6]]),
        (run_to_leave, [strand, prices, [0, 2, 6]]), (leave_curve, [strand, prices]),
        (fewest_left, [strand, prices, 1]), (share_purse, [[strand, two], prices, 1]), (is_free, [strand]),
        (free_order, [Strand([1, 2, 1, 3, 1])]), (least_changes, [strand]), (insert_bead, [strand, 2, 5]),
        (remove_bead, [strand, 2]), (change_kind, [strand, 2, 5]), (lambda more: Log(more, ends_alike=True), [entries]),
        (log.tally, []), (list, [log]), (log_of, [strand, ORDER[:]]), (order_of, [log]), (fits, [log, strand]),
    ] + calls_of_stage_5(strand, row, log) + calls_of_stage_6(strand)


def calls_of_stage_5(strand, row, log):
    """Return further pairs (call, arguments)."""
    tally = Tally(1, 2, 3, 0)
    word = ["odd", "edge", "odd", "quiet"]
    looks = Looks(7)
    looks.add([(1, "odd"), (2, "right")])
    third = Strand([1, 3, 1])
    return [
        (misfit, [log]), (count_fits, [log, 4]), (fit_at, [log, 4, 7]), (number_of_fit, [log, 4, strand]),
        (book_from_log, [log]), (freest, [log]), (write_log, [log]), (read_log, ["alike: 1o 2o 1q"]),
        (lambda marks: word_misfit(marks, ends_alike=True), [word[:]]),
        (lambda marks: log_from_word(marks, ends_alike=True), [word[:]]),
        (lambda many: count_words(many, ends_alike=False), [5]),
        (lambda counts: tally_can_be(counts, ends_alike=True), [tally]),
        (lambda counts: strand_with(counts, ends_alike=True), [tally]),
        (Looks(5).add, [[(1, "odd"), (1, "quiet")]]), (looks.classes, []), (looks.fitting_strand, []),
        (looks.tell, [0, 2]), (still, [row]), (keepers, [row, *still(row)[0][:2]]),
        (guide, [row, *still(row)[0][:2]]), (certain, [row, 0, 2]), (join_strands, [[third, third, third]]),
        (past, [strand, [0, 2, 6]]), (ways, [strand, [0, 2, 6]]),
        (order_by_way, [strand, [0, 2, 6], *ways(strand, [0, 2, 6])[0][:2]]),
    ]


def laid_desk():
    """Return a desk with a row, some takings and one deed taken back."""
    desk = Desk(coins=9)
    for line in ("lay row 1 2 1 3 1", "take row 2", "grow row 4", "coins 3"):
        desk.do(line)
    desk.undo()
    return desk


def calls_of_stage_6(strand):
    """Return further pairs (call, arguments)."""
    levels = [KINDS[:], [1, 2, 1, 2, 1, 2, 2], [0] * 7]
    nest = Nest(levels)
    prices = Prices(odd=2)
    game = Game(strand)
    game.move(2)
    ledger = Ledger(9)
    ledger.pay("row", 1, "odd", 2)
    desk = laid_desk()
    claims = [claim_for(strand, 5, 1), claim_for(strand, 9, 0), least_claim(strand, prices),
              ("book", [list(party) for party in book_of(strand, ORDER)], ORDER[:]), ("fits", log_of(strand, ORDER))]
    return [
        (Nest, [levels]), (nest.tallies, [ORDER[:]]), (nest.books, [ORDER[:]]), (nest.greatest_tolls, []),
        (nest.loudest, []), (game.moves, []), (game.winner, []), (game.winning_moves, []),
        (claim_for, [strand, 5, 1]), (claim_for, [strand, 9, 0]), (least_claim, [strand, prices]),
        *[(judge, [strand, claim]) for claim in claims],
        (ledger.payments, []), (ledger.spent, ["row"]), (desk.names, []), (desk.deeds, []), (desk.ledger, []),
        (desk.prices, []), (desk.row, ["row"]), (desk.least_due, ["row"]), (desk.plan, []), (desk.clearable, []),
        (Desk(coins=5).trial, [["lay row 1 2 1", "take row 1"]]), (Desk().lay, ["row", [1, 2, 3]]),
        (write_journal, [desk]), (read_journal, [write_journal(desk)]),
    ]


def as_tuples(value):
    """Replace lists by tuples, also inside."""
    if isinstance(value, (list, tuple)):
        return tuple(as_tuples(part) for part in value)
    return value


class Promises(unittest.TestCase):
    """Points 1 to 4."""

    def test_arguments_are_not_changed(self):
        for call, arguments in calls():
            before = copy.deepcopy(shown(arguments))
            call(*arguments)
            self.assertEqual(shown(arguments), before, call)

    def test_equal_answers(self):
        for (call, arguments), (again, others) in zip(calls(), calls()):
            self.assertEqual(shown(call(*arguments)), shown(again(*others)), call)

    def test_tuples_for_lists(self):
        for (call, arguments), (again, others) in zip(calls(), calls()):
            self.assertEqual(shown(call(*arguments)), shown(again(*[as_tuples(part) for part in others])), call)

    def test_results_are_new(self):
        for call, arguments in calls():
            if call in (play, ring_play, Row, Ring):
                continue
            first = call(*arguments)
            before = shown(first)
            if isinstance(first, (list, dict)):
                first.clear()
                if getattr(call, "__name__", "") not in ("take_round", "trial"):
                    self.assertEqual(shown(call(*arguments)), before, call)

    def test_nothing_changes_behind_an_error(self):
        strand = Strand(KINDS)
        row, ring, book = play(strand, ORDER[:2]), ring_play(strand, ORDER), book_of(strand, ORDER)
        outcomes = Outcomes(strand)
        log = log_of(strand, ORDER)
        looks = Looks(7)
        looks.add([(1, "odd")])
        nest, game, ledger, desk = Nest([KINDS, [0] * 7]), Game(Strand([1, 1, 1, 2, 3])), Ledger(5), laid_desk()
        game.move(3)
        ledger.pay("row", 1, "odd", 2)
        before = shown([strand, row, ring, book, outcomes, log, looks, nest, game, ledger, desk])
        for call, arguments in (
                (strand.turned, [7]), (row.take, [3]), (row.take, [0]), (row.take, [7]), (row.mark, [3]),
                (row.neighbours, [1]), (row.take_round, [[4, 5]]), (row.take_round, [[4, 0]]), (row.grow, [-1]),
                (ring.take, [0]), (ring.take, [3]), (ring.take, [-1]), (ring.neighbours, [1]),
                (book.party_of, [9]), (book.joined, [0, 9]), (book.joined, [0, 1]),
                (book.common, [Book(Strand([1, 1]), [[0, 1]])]), (outcomes.order, [9, 0]), (outcomes.book, [0]),
                (check_ranges, [strand, {}]), (order_with_total, [strand, Prices(), 99]), (book_at, [strand, -1]),
                (lone_set, [strand]), (order_with_toll, [strand, 99]), (price_to_leave, [strand, Prices(), [0]]),
                (fewest_left, [strand, Prices(), -1]), (share_purse, [[strand], Prices(), -1]),
                (free_order, [strand]), (insert_bead, [strand, 0, 1]), (remove_bead, [strand, 0]),
                (change_kind, [strand, 0, -1]), (log_of, [strand, [1]]), (fit_at, [log, 4, -1]),
                (number_of_fit, [log, 2, strand]), (read_log, ["alike"]), (looks.add, [[(1, "strife"), (9, "odd")]]),
                (looks.add, [[(2, "odd"), (1, "left")]]), (looks.tell, [0, 7]), (guide, [row, 0, 0]),
                (certain, [row, 0, 7]), (join_strands, [[strand, strand]]), (past, [strand, [0]]),
                (ways, [strand, [6]]), (order_by_way, [strand, [0, 6], 0, 0]), (nest.tallies, [[1]]),
                (nest.books, [[0]]), (game.move, [1]), (game.move, [3]), (game.move, [0]), (game.move, [9]),
                (judge, [strand, ()]), (ledger.pay, ["row", 1, "odd", 9]), (ledger.pay_in, [0]),
                (desk.lay, ["row", [1, 2]]), (desk.lay, ["other", [1]]), (desk.take, ["row", 2]),
                (desk.take, ["no", 2]), (desk.grow, ["row", -1]), (desk.pay_in, [0]), (desk.do, ["coins"]),
                (desk.trial, [["coins 5", "take row 1", "undo"]]), (desk.row, ["no"]), (desk.book, ["row"])):
            self.assertIsNotNone(refusal(call, *arguments), call)
        self.assertEqual(shown([strand, row, ring, book, outcomes, log, looks, nest, game, ledger, desk]), before)

    def test_keys_of_dicts_ascend(self):
        strand = Strand(KINDS)
        for claim in (claim_for(strand, 9, 0), least_claim(strand, Prices())):
            self.assertEqual(list(claim[-1]), sorted(claim[-1]))
        for found in (floors(strand, Prices()), ranges(strand), census(strand), order_counts(strand),
                      losses(Row(strand)), first_totals(strand, Prices()), last_totals(strand, Prices())):
            self.assertEqual(list(found), sorted(found))
            self.assertGreater(len(found), 1)

    def test_objects_have_the_listed_attributes_from_the_beginning(self):
        self.assertLessEqual({"kinds", "size", "unlike_pairs", "ends_unlike", "variety"}, set(vars(Strand([1, 2]))))
        self.assertLessEqual({"quiet", "odd", "edge", "strife", "counts"}, set(vars(Tally())))
        self.assertLessEqual({"quiet", "odd", "edge", "strife"}, set(vars(Prices())))
        self.assertLessEqual({"strand", "parties", "size", "lone"}, set(vars(Book(Strand([1, 2]), [[0], [1]]))))
        self.assertLessEqual({"strand", "rows"}, set(vars(Outcomes(Strand([1, 2])))))
        self.assertLessEqual({"entries", "ends_alike", "size"}, set(vars(Log([], ends_alike=True))))
        self.assertLessEqual({"size"}, set(vars(Looks(2))))
        self.assertLessEqual({"strands"}, set(vars(Nest([[1, 2]]))))

    def test_lists_inside_tuples_are_new(self):
        strand = Strand(KINDS)
        for call, arguments in ((least_changes, [strand]), (fewest_left, [strand, Prices(), 1]),
                                (share_purse, [[strand, strand], Prices(), 3]),
                                (join_strands, [[Strand([1, 2, 1])] * 3]),
                                (lambda: strand_with(Tally(1, 2, 3, 0), ends_alike=True), []),
                                (laid_desk().plan, []), (lambda: claim_for(strand, 5, 1)[2:], [])):
            before = shown(call(*arguments))
            inner = call(*arguments)[1]
            self.assertTrue(inner)
            inner[0] = None
            inner.clear()
            self.assertEqual(shown(call(*arguments)), before)

    def test_a_few_seconds(self):
        begin = time.monotonic()
        for kinds in ([1] * 24, [1, 2] * 12, [1, 2, 3] * 8, list(range(24)), [1] * 12 + [2] * 12):
            strand = Strand(kinds)
            order = list(range(22, 0, -1))
            book = book_of(strand, order)
            play_book(book)
            mend(Book(strand, strand.stretches()))
            parties_by(strand, [(0, 23), (1, 22)] * 150)
            table = floors(strand, Prices())
            check_floors(strand, Prices(), table)
            least_order(strand, Prices(quiet=-5))
            greatest_total(strand, Prices())
            ring_book(strand, order)
            self.calls_of_stage_3(strand)
            self.calls_of_stage_4(strand)
            self.calls_of_stage_5(strand)
            self.calls_of_stage_6(strand)
        self.assertLess(time.monotonic() - begin, 20)

    def calls_of_stage_3(self, strand):
        check_ranges(strand, ranges(strand))
        outcomes = Outcomes(strand)
        for row in outcomes:
            outcomes.order(row[0], row[4])
            outcomes.book(row[0])
        ring_rows(strand)
        order_with_total(strand, Prices(quiet=3), totals(strand, Prices(quiet=3))[0])
        number_of(book_at(strand, count_books(strand) - 1))
        count_above(Book(strand, strand.stretches()))
        if strand.variety == 2:
            two_kind_numbers(strand)
            lone_set(strand)

    def calls_of_stage_4(self, strand):
        order_counts(Strand(strand.kinds[::2]))
        mean_tally(strand)
        order_with_toll(strand, greatest_toll(strand))
        thrift_order(strand)
        first_totals(strand, Prices())
        last_totals(strand, Prices())
        share_purse([strand] * 12, Prices(), 50)
        least_changes(strand)
        log = log_of(strand, list(range(22, 0, -1)))
        fits(log, strand)

    def calls_of_stage_5(self, strand):
        log = log_of(strand, list(range(1, 23)))
        number_of_fit(log, 1000, fit_at(log, 1000, count_fits(log, 1000) - 1))
        freest(read_log(write_log(log)))
        count_words(22, ends_alike=True)
        looks = Looks(24)
        for entries in (log.entries, log_of(strand, list(range(22, 0, -1))).entries):
            looks.add(entries)
        looks.classes()
        row = Row(strand)
        parties, low, high = still(row)[-1]
        keepers(row, parties, high)
        guide(row, parties, low)
        certain(row, 3, 17)
        stand = list(range(0, 24, 2)) + [23]
        parties, low, high = ways(strand, stand)[-1]
        order_by_way(strand, stand, parties, high)

    def calls_of_stage_6(self, strand):
        nest = Nest([strand.kinds, [kind // 2 for kind in strand.kinds], [0] * 24])
        nest.books(nest.loudest())
        nest.greatest_tolls()
        Game(strand).winning_moves()
        judge(strand, claim_for(strand, 30, 0))
        judge(strand, claim_for(strand, *Outcomes(strand).rows[0][:4:3]))
        judge(strand, least_claim(strand, Prices()))
        desk = Desk(coins=100, odd=1)
        for at in range(12):
            desk.lay("abcdefghijkl"[at], strand.kinds)
        desk.trial(desk.plan()[1])
        desk.clearable()
        read_journal(write_journal(desk))


if __name__ == "__main__":
    unittest.main()
