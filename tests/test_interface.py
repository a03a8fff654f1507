"""The interface of the document: each name is defined in its file, with its arguments."""

import ast
import importlib
import inspect
import unittest
from pathlib import Path

PACKAGE = Path(__file__).resolve().parent.parent / "labeltill"

FUNCTIONS = {
    "kinds": ["is_integer(thing)", "is_price(thing)", "is_board(thing)", "is_change(thing)", "is_index(thing, many)"],
    "bands": ["meets(label, number, till, other, gap)", "moments_of(label, number, till, other, gap)",
              "band(label, till, gap)", "band_back(label, till, gap)", "cells(label, till, gap)",
              "stretches_at(label, till, moment, wait)"],
    "charges": ["charged(rule, shown, asked)", "greatest_over(label, till, gap, rule)",
                "is_visit(label, till, gap, thing)", "charges(label, till, gap, rule)",
                "charges_at(label, till, moment, wait, rule)", "overs(label, till, gap, rule)",
                "charges_for(label, till, gap, rule, shown)", "rules_of(label, till, gap, shown, paid)",
                "surely_charged(label, till, moment, wait, rule)", "over_visit(label, till, gap, rule)"],
    "losses": ["book_line(book)", "is_loss_visit(label, till, gap, thing)", "losses(label, till, gap, rule)",
               "losses_at(label, till, moment, wait, rule)", "greatest_loss(label, till, gap, rule)",
               "least_loss(label, till, gap, rule)", "loss_visit(label, till, gap, rule, loss)",
               "moments_with(label, till, wait, rule, loss)"],
    "plans": ["is_plan(book, thing)", "can_meet(label, till, gap, plan, cell)", "is_safe(book, label, till, gap, plan)",
              "lines_by(book, label, till, plan)", "bad_cells(book)", "harm(book, label, till, gap, plan)"],
    "orders": ["is_order(book, thing)", "is_good(book, thing)", "cells_of(order)", "plain_order(book)",
               "count_orders(book)", "order_at(book, index)", "order_index(book, order)",
               "follows(book, label, till, gap, plan, order)", "order_followed(book, label, till, gap, plan)"],
    "leastplans": ["least_plan(book, label, till, gap, order)", "forced_by(book, label, till, gap, order)"],
    "bestorders": ["ending(plan)", "waiting(book, plan)", "first_to_end(book, label, till, gap)",
                   "least_waiting(book, label, till, gap)"],
    "rules": ["is_rule(thing)", "keeps_apart(book, apart)", "is_safe_rule(rule, boards, gap, apart)",
              "sent_by(rule, book)", "lines_told(rule, book, boards)", "least_rule(boards, gap, apart)",
              "rule_above(rule, boards, gap, apart)", "least_apart(boards, gap)",
              "how_many_rules(boards, gap, apart, most)", "apart_for(rule, boards, gap)"],
    "badbooks": ["over_by(rule, book, boards, gap)", "bad_book(rule, boards, gap, apart)",
                 "is_bad_book(rule, boards, gap, apart, thing)"],
    "sightings": ["numbers_of(line, sighting)", "is_seen(line, sightings)", "is_denial(line, sightings, thing)",
                  "course_for(line, sightings)", "least_numbers(line, sightings)", "greatest_numbers(line, sightings)",
                  "seen_numbers(line, sightings)", "denial(line, sightings)", "numbers_at(line, sightings, moment)",
                  "prices_seen_at(line, sightings, moment)", "surely_at(line, sightings, moment)"],
    "steady": ["fits_steady(line, sightings, lateness)", "latenesses(line, sightings)",
               "steady_prices(line, sightings, moment)", "parting_moment(line, sightings, first)"],
    "latest": ["least_most(line, sightings)", "greatest_least(line, sightings)", "late_paper(line, sightings)",
               "is_late_paper(line, sightings, thing)"],
    "days": ["are_buyers(thing)", "is_row(label, till, buyers, thing)", "triples_at(label, till, buyer)",
             "worth_of(book, rule, worth, triple)", "sum_of(book, rule, worth, row)",
             "greatest_sum(label, till, buyers, rule, worth)", "least_sum(label, till, buyers, rule, worth)",
             "greatest_row(label, till, buyers, rule, worth)", "least_row(label, till, buyers, rule, worth)",
             "courses_of(label, till, buyers, row)"],
    "tables": ["upper_table(label, till, buyers, rule, worth)", "lower_table(label, till, buyers, rule, worth)",
               "is_upper_table(label, till, buyers, rule, worth, thing)",
               "is_lower_table(label, till, buyers, rule, worth, thing)"],
    "rounds": ["round_band(rounds, label, till, gap, number)", "greatest_round_over(rounds, label, till, gap)",
               "least_round_over(rounds, label, till, gap)", "next_round_over(rounds, label, till, gap, number)"],
    "relays": ["relay_band(relay, first, second, gap, number)", "relay_overs(relay, first, second, gap)"],
    "shop": ["is_deed(thing)"],
    "notation": ["show_sighting(sighting)", "show_book(book)", "show_board(board)", "show_moments(moments)",
                 "show_deed(deed)", "show_window(window)"],
    "readers": ["read_sighting(text)", "read_board(text)", "read_deed(text)", "read_book(text)", "read_moments(text)"],
}
CLASSES = {
    ("books", "Book", "(first, changes=())"): [
        "__len__()", "__getitem__(number)", "__eq__(other)", "__iter__()", "changes()", "moments()", "prices()",
        "at(moment)", "first_at(price)", "moved(by)", "scaled(by)", "with_change(moment, price)", "without(index)",
        "joined(other)"],
    ("lines", "Line", "(book, board, sent=None)"): [
        "__eq__(other)", "sent()", "earliest()", "latest()", "prices_at(moment)", "window(number)",
        "can_show(number, moment)", "stretch(moment)", "shown(course, moment)", "is_course(thing)",
        "course_with(looks)", "tight(looks)"],
    ("visits", "Visit", "(lines, looks, gaps, begun=None)"): [
        "__eq__(other)", "lines()", "looks()", "gaps()", "start()", "can_be(numbers)", "is_shown(numbers, thing)",
        "shown_by(numbers)", "clash(numbers)", "numbers_at(told, index)"],
    ("rounds", "Rounds", "(period, changes)"): [
        "__len__()", "__eq__(other)", "changes()", "price_of(number)", "told_at(number)", "number_at(moment)",
        "window(board, number)", "stretch(board, moment)", "prices_at(board, moment)", "unrolled(first, many)"],
    ("relays", "Relay", "(book, boards, sent=None)"): [
        "__len__()", "boards()", "line(place)", "is_courses(thing)", "can_be(looks)", "clash_of(looks)", "courses_with(looks)"],
    ("shop", "Shop", "(first, label, till)"): [
        "do(deed)", "do_all(deeds)", "back()", "again()", "log()", "copied()", "line(place)", "sightings(place)",
        "numbers(place, moment)", "prices(place, moment)", "surely(place, moment)", "charged(moment, later)",
        "overs(moment, later)"],
    ("desk", "Desk", "(first, label, till)"): ["execute(line)"],
}
PROPERTIES = {("lines", "Line"): ["book", "board"], ("rounds", "Rounds"): ["period"], ("relays", "Relay"): ["book"],
              ("shop", "Shop"): ["book"]}
ERRORS = ["LabelError", "Wrong", "NotLater", "Early", "NoNumber", "NoPrice", "NoChange", "NoOrder", "NoIndex",
          "NoLoss", "Outside", "NoPlace", "Passed", "Clash", "Refused", "Nothing", "NoText", "NoCommand"]


def defined_in(module):
    """The names that a file of the package defines by def and class."""
    tree = ast.parse((PACKAGE / (module + ".py")).read_text(encoding="utf-8"))
    return [node.name for node in tree.body if isinstance(node, (ast.FunctionDef, ast.ClassDef))]


class InterfaceTest(unittest.TestCase):
    def test_functions(self):
        for module, signatures in FUNCTIONS.items():
            names = defined_in(module)
            for signature in signatures:
                name = signature.split("(")[0]
                self.assertIn(name, names)
                function = getattr(importlib.import_module("labeltill." + module), name)
                self.assertEqual(name + str(inspect.signature(function)), signature)

    def test_classes(self):
        for (module, name, signature), methods in CLASSES.items():
            self.assertIn(name, defined_in(module))
            found = getattr(importlib.import_module("labeltill." + module), name)
            self.assertEqual(str(inspect.signature(found)), signature)
            for method in methods:
                word = method.split("(")[0]
                self.assertIn(word, vars(found))
                arguments = list(inspect.signature(vars(found)[word]).parameters)[1:]
                self.assertEqual("{}({})".format(word, ", ".join(arguments)), method)

    def test_properties(self):
        for (module, name), words in PROPERTIES.items():
            found = getattr(importlib.import_module("labeltill." + module), name)
            for word in words:
                self.assertIsInstance(vars(found)[word], property)

    def test_errors(self):
        self.assertEqual(sorted(defined_in("errors")), sorted(ERRORS))


if __name__ == "__main__":
    unittest.main()
