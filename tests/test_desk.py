"""[103] The desk, with what [3], [4] and [12] say of it."""

import unittest
from random import Random

from helpers import HUGE, Case, odd_values, some_board
from labeltill.books import Book
from labeltill.desk import Desk
from labeltill.errors import Clash, LabelError, NoCommand, NoNumber, Nothing, NotLater, Passed, Wrong
from labeltill.notation import show_board, show_book, show_deed, show_moments, show_window
from labeltill.shop import Shop
from test_notation import NO_INTEGERS
from test_shop import some_deed

PLACES = "label", "till"
QUESTIONS = ["book", "log", "numbers label 12", "prices till 13", "surely label 12", "window till 0", "charged 12 13", "overs 12 12"]
DEEDS = ["change 250 at 10", "label 250 at 12", "till 300 at 12", "change 400 at 20", "label 250 at 20"]


def doc_desk(deeds=()):
    desk = Desk(300, (0, 4), (0, 3))
    for line in deeds:
        desk.execute(line)
    return desk


def answers(desk):
    return [desk.execute(line) for line in QUESTIONS]


def answer_by_hand(shop, line):
    """The answer of a Shop that is led the same way, for a line that is a command."""
    words = line.split(" ")
    if len(words) == 4:
        return shop.do((words[0], int(words[3]), int(words[1]))) or "done"
    if line in ("back", "again"):
        return show_deed(shop.back() if line == "back" else shop.again())
    if line == "book":
        return show_book(shop.book)
    if line == "log":
        return "; ".join(show_deed(deed) for deed in shop.log()) or "none"
    if words[0] in ("numbers", "prices"):
        return show_moments({"numbers": shop.numbers, "prices": shop.prices}[words[0]](words[1], int(words[2])))
    if words[0] == "surely":
        price = shop.surely(words[1], int(words[2]))
        return "open" if price is None else str(price)
    if words[0] == "window":
        return show_window(shop.line(words[1]).window(int(words[2])))
    return show_board({"charged": shop.charged, "overs": shop.overs}[words[0]](int(words[1]), int(words[2])))


def result(call, *arguments):
    """What a call returns, or the class and the fields of the error of the package that it raises."""
    try:
        return call(*arguments)
    except LabelError as error:
        return error.__class__, vars(error)


def some_line(random, deeds):
    """A line that is a command, though perhaps one that cannot be done."""
    word = random.choice(["deed"] * 6 + ["back", "back", "again", "book", "log", "numbers", "prices", "surely", "window", "charged", "overs"])
    if word == "deed":
        return show_deed(some_deed(random, deeds))
    moment = random.randint(-2, 8)
    if word in ("numbers", "prices", "surely", "window"):
        return "{} {} {}".format(word, random.choice(PLACES), abs(moment) if word == "window" else moment)
    if word in ("charged", "overs"):
        return "{} {} {}".format(word, moment, moment + random.randint(0, 3))
    return word


class DeskTest(Case):
    def refuses(self, error, fields, desk, line):
        """Asks that a line is refused with an error, and that nothing is changed."""
        ahead = answers(desk)
        with self.assertRaises(error) as context:
            desk.execute(line)
        self.assertIs(context.exception.__class__, error)
        self.assertEqual(list(vars(context.exception).values()), fields)
        self.assertEqual(answers(desk), ahead)

    def no_command(self, desk, line):
        with self.assertRaises(NoCommand, msg=line):
            desk.execute(line)

    def test_of_the_document(self):
        desk = Desk(300, (0, 4), (0, 1))
        self.assertEqual([desk.execute(line) for line in ["change 250 at 10", "label 250 at 12", "prices label 13", "surely till 12",
                                                          "overs 12 12", "change 400 at 12", "charged 12 13"]],
                         ["done", "done", "250", "250", "-50 to 0", "done", "250 to 400"])
        self.assertEqual([desk.execute(line) for line in ["numbers label 13", "window till 1", "back", "log"]],
                         ["1 2", "10 to 13", "change 400 at 12", "change 250 at 10; label 250 at 12"])

    def test_wrong_arguments(self):
        for odd in odd_values() + [-5, (4, 0), [0, 4], "5"]:
            self.fails(Wrong, "place", 0, Desk, odd, (0, 4), (0, 1))
            self.fails(Wrong, "place", 1, Desk, 300, odd, (0, 1))
            self.fails(Wrong, "place", 2, Desk, 300, (0, 4), odd)
            self.fails(Wrong, "place", 0, Desk, odd, odd, odd)
            self.fails(Wrong, "place", 1, Desk, 0, odd, odd)

    def test_at_first(self):
        desk = doc_desk()
        self.assertEqual(answers(desk), ["300", "none", "0", "300", "300", "ever to ever", "300 to 300", "0 to 0"])
        for line in ("back", "again"):
            self.refuses(Nothing, [], desk, line)

    def test_each_kind_of_line(self):
        desk = doc_desk(DEEDS)
        for line, known in (("book", "300; 250 at 10; 400 at 20"),
                            ("log", "change 250 at 10; label 250 at 12; till 300 at 12; change 400 at 20; label 250 at 20"),
                            ("numbers label 20", "1 2"), ("numbers till 9", "0"), ("numbers till -5", "0"), ("numbers label 24", "1 2"),
                            ("prices till 12", "250 300"), ("prices label 25", "400"), ("prices label 0", "300"),
                            ("surely label 12", "open"), ("surely label 13", "250"), ("surely till -1", "300"), ("surely till 24", "400"),
                            ("window label 0", "ever to 14"), ("window label 1", "10 to 24"), ("window till 2", "20 to ever"),
                            ("charged 12 13", "250 to 300"), ("charged 25 25", "400 to 400"), ("charged -3 0", "300 to 300"),
                            ("overs 20 20", "-150 to 150"), ("overs 9 25", "100 to 100"), ("overs 19 19", "0 to 0"),
                            ("back", "label 250 at 20"), ("back", "change 400 at 20"), ("again", "change 400 at 20"),
                            ("book", "300; 250 at 10; 400 at 20"), ("back", "change 400 at 20"), ("book", "300; 250 at 10"),
                            ("window label 1", "10 to ever"), ("change 0 at 21", "done"), ("book", "300; 250 at 10; 0 at 21"),
                            ("till 0 at 22", "done"), ("surely till 22", "open"), ("surely till 23", "0")):
            self.assertEqual(desk.execute(line), known, line)

    def test_walks_beside_a_shop(self):
        kinds = {}
        for seed in range(60):
            random = Random(seed)
            first, label, till = random.randint(0, 2), some_board(random, 2), some_board(random, 2)
            desk, shop = Desk(first, label, till), Shop(first, label, till)
            for _ in range(50):
                line = some_line(random, shop.log())
                known = result(answer_by_hand, shop, line)
                self.assertEqual(result(desk.execute, line), known, line)
                kind = known[0] if isinstance(known, tuple) else line.split(" ")[0]
                kinds[kind] = kinds.get(kind, 0) + 1
        for kind in (NotLater, Passed, Clash, Nothing, NoNumber, "change", "label", "till", "back", "again", "book", "log", "numbers",
                     "prices", "surely", "window", "charged", "overs"):
            self.assertTrue(kinds.get(kind, 0) > 20, (kind, kinds))

    def test_errors_of_the_shop(self):
        desk = doc_desk(DEEDS[:3])
        self.refuses(NotLater, [1], desk, "change 400 at 10")
        self.refuses(Passed, [11], desk, "label 250 at 11")
        self.refuses(Clash, [("label", 13, 300)], desk, "label 300 at 13")
        self.refuses(Clash, [("till", 14, 300)], desk, "till 300 at 14")
        for number in (2, 3, 10 ** 39):
            self.refuses(NoNumber, [number], desk, "window label {}".format(number))
        desk.execute("back")
        for line in ("change 400 at 10", "label 250 at 11", "label 300 at 13", "window till 2", "window till 02", "nothing"):
            with self.assertRaises(LabelError):
                desk.execute(line)
        # What was taken back can still be done again behind lines that were refused.
        self.assertEqual([desk.execute("again"), desk.execute("log")], [DEEDS[2], "; ".join(DEEDS[:3])])
        self.refuses(Nothing, [], desk, "again")

    def test_no_command(self):
        desk = doc_desk(DEEDS)
        ahead = answers(desk)
        for line in ("", " ", "\n", "help", "Back", "BACK", "back ", " back", "back 1", "back back", "again again", "undo", "Again", "Book",
                     "book label", "books", "LOG", "log ", "log label", "log label 1", "none", "done", "open",
                     "numbers", "numbers label", "numbers 12", "numbers label 12 13", "numbers  label 12", "numbers label  12",
                     "numbers label 12 ", " numbers label 12", "Numbers label 12", "numbers Label 12", "numbers LABEL 12", "numbers tills 12",
                     "numbers change 12", "numbers  12", "number label 12", "numbers 12 label", "numbers label\t12", "numbers\nlabel 12",
                     "prices", "prices shelf 12", "Prices till 12", "prices till 12,", "prices till", "prices till none",
                     "surely", "surely till", "surely 12 till", "Surely till 12", "surely  till 12", "sure till 12",
                     "window", "window till", "window till -1", "window shelf 0", "window  0", "window 0 till", "Window till 0", "window till 0 1",
                     "window till ever", "windows till 0",
                     "charged", "charged 12", "charged 13 12", "charged 12 13 14", "charged label 12", "charged 12 label", "charged  12 13",
                     "charged 12  13", "Charged 12 13", "charged 12 11", "charged -3 -4", "charged label 12 13", "charge 12 13",
                     "overs", "overs 13 12", "overs 0 -1", "overs 12", "Overs 12 12", "over 12 12", "overs 12 12 ", "overs till 12",
                     "change", "change 250", "change 250 at", "change 250 at 30 ", "change  250 at 30", "Change 250 at 30",
                     "change 250 30", "change 250 to 30", "change -1 at 30", "change 250 at 30 at 31", "change 250 at 30; 260 at 31",
                     "change at 30 250", "label", "label 250", "till 250 at", "shelf 250 at 30", "tills 250 at 30", "label till 250 at 30",
                     "label 250 at 30 31", "250 at 30", "book\n", "window label 10 at 10", "numbers label at 12", "x" * 4000, " " * 4000,
                     "1 " * 2000):
            self.no_command(desk, line)
        self.assertEqual(answers(desk), ahead)

    def test_integers_otherwise(self):
        desk = doc_desk(DEEDS)
        ahead = answers(desk)
        for text in NO_INTEGERS:
            for line in ("numbers label " + text, "prices till " + text, "surely till " + text, "window till " + text, "charged 1 " + text,
                         "charged " + text + " 100", "overs -100 " + text, "overs " + text + " 100", "change " + text + " at 30",
                         "change 250 at " + text, "till " + text + " at 30", "label 250 at " + text):
                self.no_command(desk, line)
        self.assertEqual(answers(desk), ahead)
        forty = "9" * 40
        self.assertEqual([desk.execute("numbers label " + forty), desk.execute("prices till -" + forty),
                          desk.execute("charged -" + forty + " " + forty)], ["2", "300", "300 to 300"])
        self.refuses(NoNumber, [10 ** 40 - 1], desk, "window till " + forty)

    def test_moments_that_are_equal_or_fall(self):
        desk = doc_desk(DEEDS)
        self.assertEqual([desk.execute("charged 12 12"), desk.execute("overs 12 12"), desk.execute("overs -1 0")],
                         ["250 to 300", "-50 to 50", "0 to 0"])
        for line in ("charged 12 11", "overs 12 11", "overs 0 -1"):
            self.no_command(desk, line)

    def test_moved_and_scaled(self):
        for by in (HUGE, -HUGE):
            desk = Desk(300 * HUGE, (0, 4), (0, 3))
            for line in DEEDS:
                word, price, _, moment = line.split(" ")
                self.assertEqual(desk.execute("{} {} at {}".format(word, int(price) * HUGE, int(moment) + by)), "done")
            self.assertEqual(desk.execute("book"), show_book(Book(300, [(10, 250), (20, 400)]).moved(by).scaled(HUGE)))
            self.assertEqual([desk.execute("surely label {}".format(13 + by)), desk.execute("overs {} {}".format(12 + by, 12 + by)),
                              desk.execute("window till 1"), desk.execute("numbers till {}".format(20 + by))],
                             [str(250 * HUGE), "-{} to {}".format(50 * HUGE, 50 * HUGE), "{} to {}".format(10 + by, 23 + by), "1 2"])

    def test_by_turns(self):
        one, other = doc_desk(), Desk(5, (1, 1), (2, 2))
        for line in DEEDS[:2]:
            one.execute(line)
        other.execute("change 7 at 0")
        for _ in range(3):
            self.assertEqual([one.execute("book"), other.execute("book"), one.execute("log"), other.execute("log"),
                              one.execute("numbers label 12"), other.execute("numbers label 1")],
                             ["300; 250 at 10", "5; 7 at 0", "change 250 at 10; label 250 at 12", "change 7 at 0", "0 1", "0 1"])
        self.assertEqual([one.execute("back"), other.execute("back"), one.execute("again"), other.execute("log")],
                         ["label 250 at 12", "change 7 at 0", "label 250 at 12", "none"])


if __name__ == "__main__":
    unittest.main()
