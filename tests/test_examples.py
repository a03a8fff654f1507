"""The examples of the document, with just the answers that stand there."""

import unittest

from labeltill.badbooks import bad_book, is_bad_book, over_by
from labeltill.bands import band, cells, moments_of
from labeltill.bestorders import ending, first_to_end, waiting
from labeltill.books import Book
from labeltill.charges import charges, charges_at, greatest_over, is_visit, overs, rules_of, surely_charged
from labeltill.days import courses_of, greatest_row, greatest_sum, least_sum, triples_at
from labeltill.desk import Desk
from labeltill.latest import greatest_least, is_late_paper, late_paper, least_most
from labeltill.leastplans import forced_by, least_plan
from labeltill.lines import Line
from labeltill.losses import losses, moments_with
from labeltill.notation import show_book, show_window
from labeltill.orders import cells_of, count_orders, order_at, order_followed, plain_order
from labeltill.plans import bad_cells, can_meet, harm, is_safe
from labeltill.readers import read_book, read_deed
from labeltill.relays import Relay, relay_band, relay_overs
from labeltill.rounds import Rounds, greatest_round_over, next_round_over, round_band
from labeltill.rules import apart_for, how_many_rules, is_safe_rule, least_apart, least_rule, sent_by
from labeltill.sightings import denial, is_seen, numbers_at, seen_numbers, surely_at
from labeltill.steady import latenesses, parting_moment, steady_prices
from labeltill.tables import is_upper_table, upper_table
from labeltill.visits import Visit


class ExamplesTest(unittest.TestCase):
    def setUp(self):
        self.book = Book(300, [(10, 250), (20, 400)])
        self.label, self.till = Line(self.book, (0, 4)), Line(self.book, (1, 2), [12, 20])

    def same(self, found, expected):
        self.assertEqual(found, expected)
        # True and 1 are equal to Python, and are not the same answer.
        self.assertEqual(repr(found), repr(expected))

    def test_books_and_lines(self):
        book, label, till = self.book, self.label, self.till
        self.same([book[1], len(book), list(book), book.at(10), book.at(11), book.first_at(400)],
                  [250, 3, [300, 250, 400], (0, 1), (1, 1), 20])
        self.same([label.window(0), label.window(1), till.window(1), label.stretch(20), label.prices_at(12),
                   till.stretch(12)], [(None, 14), (10, 24), (13, 22), (1, 2), [250, 300], (0, 0)])
        self.same([label.latest(), till.is_course([13, 21]), label.shown([14, 20], 14),
                   label.is_course(label.course_with([(11, 0), (20, 2)]))], [[14, 24], True, (0, 1), True])
        self.same([label.tight([(9, 0), (9, 1)]), label.tight([(20, 2), (21, 1)])], [(1,), (0, 1)])

    def test_visits_and_bands(self):
        label, till = self.label, self.till
        visit = Visit([label, till], [0, 1, 0], [(0, 3), (1, 1)])
        self.same([visit.can_be([0, 1, 1]), visit.can_be([1, 0, 0]), visit.clash([1, 0, 0]), visit.clash([1, 2, 1]),
                   visit.numbers_at([1, None, 2], 1)], [True, False, (0, 2), None, (1, 2)])
        self.same(visit.is_shown([0, 1, 1], ([13, 13, 14], [[13, 21], [13, 21]])), True)
        self.same([band(label, till, (0, 3)), cells(label, till, (0, 0)), moments_of(label, 1, till, 0, (0, 3))],
                  [[(0, 1), (0, 2), (1, 2)], [(0, 0), (0, 1), (1, 0), (1, 1), (1, 2), (2, 1), (2, 2)], (10, 14)])

    def test_charges_and_losses(self):
        label, till = self.label, self.till
        gap = (0, 3)
        self.same([charges(label, till, gap, "till"), charges_at(label, till, 20, 1, "till"),
                   surely_charged(label, till, 9, 3, "shown"), surely_charged(label, till, 11, 3, "lower")],
                  [[250, 300, 400], [250, 400], 300, None])
        self.same([overs(label, till, gap, "till"), greatest_over(label, till, gap, "till"),
                   greatest_over(label, till, gap, "lower"), rules_of(label, till, gap, 300, 250)],
                  [[-150, -50, 0, 50, 150], 150, 0, ["till", "lower"]])
        self.same([is_visit(label, till, gap, (1, 2, 20, 1)), is_visit(label, till, gap, (1, 2, 10, 1)),
                   losses(label, till, gap, "lower"), moments_with(label, till, 0, "till", 1)],
                  [True, False, [-50, 0, 50, 150], [(20, 22)]])

    def test_plans_and_orders(self):
        book = self.book
        self.same([bad_cells(book), plain_order(book), count_orders(book), order_at(book, 0), cells_of("TLLT")],
                  [[(0, 2), (1, 0), (1, 2)], "TLLT", 1, "TLLT", [(0, 0), (0, 1), (1, 1), (2, 1), (2, 2)]])
        boards = (0, 4), (0, 1), (0, 5)
        at_once = ([10, 20], [10, 20])
        self.same([harm(book, *boards, at_once), can_meet(*boards, at_once, (0, 2))], [((1, 0), (10, 10)), False])
        plan = least_plan(book, *boards, "TLLT")
        self.same([plan, forced_by(book, *boards, "TLLT"), is_safe(book, *boards, plan)],
                  [([12, 20], [10, 30]), [None, 0, None, 2], True])
        self.same([ending(plan), waiting(book, plan), first_to_end(book, *boards), order_followed(book, *boards, plan)],
                  [30, 12, "TLLT", "TLLT"])

    def test_rules_and_bad_books(self):
        book, gap, boards = self.book, (0, 3), ((0, 4), (1, 2))
        self.same([sent_by((7, 3), book), is_safe_rule((7, 3), boards, gap, 9), over_by((7, 3), book, boards, gap),
                   over_by((5, 3), book, boards, gap)], [([13, 20], [10, 27]), True, 0, 150])
        self.same([least_rule(boards, gap, 9), least_apart(boards, gap), least_rule(boards, gap, 4),
                   apart_for((9, 3), boards, gap), how_many_rules(boards, gap, 9, 10)], [(7, 3), 5, None, 9, 30])
        self.same([is_bad_book((0, 0), boards, gap, 9, bad_book((0, 0), boards, gap, 9)),
                   bad_book((7, 3), boards, gap, 9)], [True, None])

    def test_sightings_and_steady_lines(self):
        label = self.label
        self.same([seen_numbers(label, [(12, 250), (20, 250)]), numbers_at(label, [(12, 250)], 12),
                   surely_at(label, [(12, 250)], 19)], [[[1], [1]], [0, 1], 250])
        self.same([is_seen(label, [(12, 250), (13, 300)]), denial(label, [(12, 250), (13, 300)]),
                   denial(label, [(15, 300)])], [False, [1], []])
        self.same([latenesses(label, [(12, 250)]), steady_prices(label, [(12, 250)], 21),
                   parting_moment(label, [(12, 250)], 0)], [[(0, 2)], [250, 400], 11])

    def test_least_most(self):
        label = self.label
        self.same([least_most(label, [(15, 300)]), greatest_least(label, [(12, 250)]), late_paper(label, [(15, 300)])],
                  [5, 2, (5, [0], [])])
        self.same(is_late_paper(label, [(15, 300)], late_paper(label, [(15, 300)])), True)

    def test_days_and_tables(self):
        label, till = self.label, self.till
        buyers = [(11, 12), (14, 20)]
        self.same([triples_at(label, till, (14, 20)), greatest_sum(label, till, buyers, "till", "over")],
                  [[(0, 1, 1), (0, 1, 2), (1, 1, 1), (1, 1, 2)], 50])
        self.same([greatest_row(label, till, buyers, "till", "over"), least_sum(label, till, buyers, "lower", "charged")],
                  [[(1, 0, 1), (1, 1, 1)], 500])
        courses = courses_of(label, till, buyers, greatest_row(label, till, buyers, "till", "over"))
        table = upper_table(label, till, buyers, "till", "over")
        self.same([label.is_course(courses[0]), is_upper_table(label, till, buyers, "till", "over", table)], [True, True])

    def test_rounds(self):
        week = Rounds(7, [(0, 300), (5, 250)])
        self.same([week.told_at(3), week.number_at(-1), week.window((0, 1), 2), week.stretch((0, 3), 10 ** 30),
                   week.unrolled(1, 2).prices()],
                  [12, -1, (7, 13), (285714285714285714285714285712, 285714285714285714285714285714), [300, 250, 300]])
        self.same([round_band(week, (0, 2), (0, 2), (0, 1), 1), greatest_round_over(week, (0, 2), (0, 2), (0, 1)),
                   next_round_over(week, (0, 2), (0, 0), (0, 0), 2)], [(0, 2), 50, 3])

    def test_relays(self):
        relay = Relay(self.book, [(0, 4), (1, 2)])
        self.same([relay.line(1).board, relay.can_be([(0, 12, 1), (1, 14, 0)]), relay.clash_of([(0, 12, 1), (1, 15, 0)]),
                   relay.can_be([(0, 12, 0), (1, 12, 1)])], [(1, 6), True, (0, 1), False])
        self.same([relay_band(relay, 1, 0, (0, 3), 1), relay_band(relay, 0, 1, (0, 0), 1), relay_overs(relay, 1, 0, (0, 3))],
                  [(1, 2), (0, 1), [(1, 2)]])

    def test_texts_and_desks(self):
        self.same([show_book(self.book), show_window(self.label.window(0)), read_deed("till 250 at -3"),
                   read_book("5; 3 at -1").changes()], ["300; 250 at 10; 400 at 20", "ever to 14", ("till", -3, 250), [(-1, 3)]])
        desk = Desk(300, (0, 4), (0, 1))
        self.same([desk.execute(line) for line in ["change 250 at 10", "label 250 at 12", "prices label 13", "surely till 12",
                                                   "overs 12 12", "change 400 at 12", "charged 12 13"]],
                  ["done", "done", "250", "250", "-50 to 0", "done", "250 to 400"])
        self.same([desk.execute(line) for line in ["numbers label 13", "window till 1", "back", "log"]],
                  ["1 2", "10 to 13", "change 400 at 12", "change 250 at 10; label 250 at 12"])


if __name__ == "__main__":
    unittest.main()
