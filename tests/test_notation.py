"""[101] The notation, and [102] its readers, with what [4] and [12] say of them."""

import unittest
from random import Random

from helpers import HUGE, Case, some_book, some_lines
from labeltill.books import Book
from labeltill.errors import LabelError, NoText
from labeltill.kinds import is_board
from labeltill.notation import show_board, show_book, show_deed, show_moments, show_sighting, show_window
from labeltill.readers import read_board, read_book, read_deed, read_moments, read_sighting

FORTY = 10 ** 40 - 1
INTEGERS = [0, 1, -1, 9, 10, -10, 250, -250, 1000, HUGE, -HUGE, FORTY, -FORTY, 10 ** 39, -(10 ** 39)]
# What is no integer as it is shown.
NO_INTEGERS = ["", "-", "-0", "+1", "+0", "01", "-01", "00", "-00", "1_0", "1,0", "1.0", "1e3", "0x1", "--1", "- 1", " 1", "1 ",
               "a", "1a", "one", "None", "True", "\n1", "1\n", "1\t", "\t1", "1\r", "\x0b1", "1\x00", str(10 ** 40), "-" + str(10 ** 40),
               "1" * 41, "-" + "1" * 41, "0" * 40, "0" * 39 + "1", "1" * 4000, "(1)", "1;", "'1'", "~1", "1-", "1-1", "none", "ever"]


class NotationTest(Case):
    def test_by_hand(self):
        self.assertEqual([show_sighting((-3, 250)), show_book(Book(300)), show_book(Book(300, [(10, 250), (20, 400)])),
                          show_board((0, 4)), show_board((-50, -3)), show_moments([]), show_moments([0]), show_moments([3, -1, 3]),
                          show_deed(("change", 10, 250)), show_deed(("label", -1, 0)), show_deed(("till", 0, 1))],
                         ["250 at -3", "300", "300; 250 at 10; 400 at 20", "0 to 4", "-50 to -3", "none", "0", "3 -1 3",
                          "change 250 at 10", "label 0 at -1", "till 1 at 0"])
        self.assertEqual([show_window((None, 14)), show_window((-10, 24)), show_window((20, None)), show_window((None, None)),
                          show_window((0, 0)), show_window((None, 0)), show_window((0, None))],
                         ["ever to 14", "-10 to 24", "20 to ever", "ever to ever", "0 to 0", "ever to 0", "0 to ever"])

    def test_great_numbers(self):
        self.assertEqual([show_sighting((-HUGE, HUGE)), show_board((-HUGE, HUGE)), show_moments([HUGE, -HUGE]),
                          show_window((-HUGE, HUGE)), show_book(Book(HUGE, [(-HUGE, 0)]))],
                         ["1" + 30 * "0" + " at -1" + 30 * "0", "-1" + 30 * "0" + " to 1" + 30 * "0",
                          "1" + 30 * "0" + " -1" + 30 * "0", "-1" + 30 * "0" + " to 1" + 30 * "0",
                          "1" + 30 * "0" + "; 0 at -1" + 30 * "0"])
        self.assertEqual(show_moments([10 ** 999]), "1" + 999 * "0")

    def test_nothing_that_is_passed_is_changed(self):
        moments, book = [3, 1], Book(300, [(10, 250)])
        self.assertEqual([show_moments(moments), show_moments(moments), show_book(book), show_book(book)],
                         ["3 1", "3 1", "300; 250 at 10", "300; 250 at 10"])
        self.assertEqual([moments, book], [[3, 1], Book(300, [(10, 250)])])


class ReadersTest(Case):
    def no_text(self, call, text, index=0):
        with self.assertRaises(NoText) as context:
            call(text)
        self.assertEqual(context.exception.index, index, text)
        self.assertIs(context.exception.index.__class__, int)

    def test_there_and_back(self):
        for moment in INTEGERS:
            for price in [number for number in INTEGERS if number >= 0]:
                self.assertEqual(read_sighting(show_sighting((moment, price))), (moment, price))
                for word in ("change", "label", "till"):
                    self.assertEqual(read_deed(show_deed((word, moment, price))), (word, moment, price))
        for least in INTEGERS:
            for most in INTEGERS:
                if is_board((least, most)):
                    self.assertEqual(read_board(show_board((least, most))), (least, most))
                else:
                    self.no_text(read_board, show_board((least, most)))
        for moments in [[], INTEGERS, INTEGERS[::-1], [0, 0, 0]] + [[moment] for moment in INTEGERS]:
            self.assertEqual(read_moments(show_moments(moments)), moments)

    def test_books_there_and_back(self):
        random = Random(1)
        books = [some_book(random, 5) for _ in range(40)] + [line.book.moved(-HUGE).scaled(HUGE) for line in some_lines(2, 20)]
        books += [Book(0), Book(FORTY, [(-FORTY, 0), (0, FORTY), (FORTY, 1)]), Book(0, [(index, index) for index in range(12)])]
        for book in books:
            found = read_book(show_book(book))
            self.assertEqual(found, book)
            self.assertEqual(show_book(found), show_book(book))

    def test_kinds_of_what_is_read(self):
        self.assertEqual([read_sighting("250 at -3").__class__, read_board("0 to 4").__class__, read_deed("till 0 at 0").__class__,
                          read_book("5").__class__, read_moments("none").__class__, read_moments("1").__class__],
                         [tuple, tuple, tuple, Book, list, list])
        self.assertEqual([read_deed("till 250 at -3"), read_book("5; 3 at -1"), read_moments("3 -1 3")],
                         [("till", -3, 250), Book(5, [(-1, 3)]), [3, -1, 3]])
        found = read_moments("1 2")
        found.append(3)
        self.assertEqual([read_moments("1 2"), read_moments("none")], [[1, 2], []])

    def test_no_integers(self):
        for text in NO_INTEGERS:
            self.no_text(read_sighting, text + " at 5")
            self.no_text(read_sighting, "5 at " + text)
            self.no_text(read_deed, "till " + text + " at 5")
            self.no_text(read_deed, "till 5 at " + text)
            self.no_text(read_board, text + " to 5")
            self.no_text(read_board, "5 to " + text)
            self.no_text(read_book, text)
            self.no_text(read_book, "5; " + text + " at 5", 1)
            self.no_text(read_book, "5; 5 at " + text, 1)
            if " " not in text:
                self.no_text(read_moments, "5 " + text + " 5", 1)
            if text != "none":
                self.no_text(read_moments, text, 0 if text != "1 " else 1)

    def test_no_sightings(self):
        for text in ("", "5", "5 at", "at 5", " at ", "5 at ", " at 5", "5  at 5", "5 at  5", " 5 at 5", "5 at 5 ", "5 At 5", "5 AT 5",
                     "5at5", "5 at5", "5at 5", "5\tat 5", "5 at\n5", "5 to 5", "-1 at 5", "5 at 5 at 5", "5, at 5", "5 at 5; 5 at 6",
                     "till 5 at 5", "5 at 5\n", "5 at at 5", "none", "5 at none"):
            self.no_text(read_sighting, text)
        self.assertEqual([read_sighting("0 at 0"), read_sighting("7 at -7")], [(0, 0), (-7, 7)])

    def test_no_boards(self):
        for text in ("", "5", "0 to", "to 5", " to ", "0  to 5", "0 to  5", " 0 to 5", "0 to 5 ", "5 to 4", "-1 to 5", "-2 to -1",
                     "0 To 5", "0 at 5", "0 to 5 to 6", "0 - 5", "(0, 5)", "0, 5", "0\nto 5", "0 to 5\n", "ever to 5", "0 to ever"):
            self.no_text(read_board, text)
        self.assertEqual([read_board("0 to 0"), read_board("5 to 5"), read_board("0 to 1")], [(0, 0), (5, 5), (0, 1)])

    def test_no_moments(self):
        for text, index in (("", 0), (" ", 0), ("1 ", 1), (" 1", 0), ("1  2", 1), ("1 2 x", 2), ("1 -0 x", 1), ("x -0", 0), ("none none", 0),
                            ("1 none", 1), ("None", 0), ("NONE", 0), (" none", 0), ("none ", 0), ("1,2", 0), ("1; 2", 0), ("1\n2", 0),
                            ("1\t2", 0), ("1 2\n", 1), ("5 4 3 2 01 0 +1", 4), ("1 2 3 4 5 6 7 8 9 " + str(10 ** 40), 9), ("ever", 0)):
            self.no_text(read_moments, text, index)
        long = " ".join(["1"] * 2000)
        self.assertEqual(read_moments(long), [1] * 2000)
        self.no_text(read_moments, long[:-1] + "x", 1999)

    def test_no_deeds(self):
        for text in ("", "till", "till ", "till 5", "till 5 at", "till 5 at ", "till at 5", "5 at 5", " 5 at 5", "Till 5 at 5", "TILL 5 at 5",
                     "tills 5 at 5", "til 5 at 5", "label5 at 5", "change: 5 at 5", "changes 5 at 5", "back 5 at 5", "till  5 at 5",
                     " till 5 at 5", "till 5 at 5 ", "till 5  at 5", "till 5 at  5", "till -1 at 5", "till label 5 at 5", "till\t5 at 5",
                     "till 5 at 5; till 5 at 5", "till 5 to 5", "till 5 at 5 at 5", "till 5 5", "till5 at 5", "label at 5 at 5", "none",
                     "till 5 at 5\n", "change till 5 at 5"):
            self.no_text(read_deed, text)

    def test_no_books(self):
        for text, index in (("", 0), ("x", 0), ("-1", 0), ("05", 0), ("5 at 5", 0), ("5;", 0), ("5;3 at 1", 0), ("5 ; 3 at 1", 0), ("5; ", 1),
                            ("; 3 at 1", 0), ("5; 3", 1), ("5; 3 at 1; ", 2), ("5;  3 at 1", 1), ("5; 3 at 1 ; 4 at 2", 1),
                            ("5; 3 at 1; 4 at 1", 2), ("5; 3 at 1; 4 at 0", 2), ("5; 3 at 1; 4 at 2; 4 at -3", 3),
                            ("5; 3 at 1; x; 4 at 0", 2), ("5; 3 at 1; 4 at 0; x", 2), ("x; 3 at 1; 4 at 0", 0), ("5; -3 at 1", 1),
                            ("5; 3 at 1, 4 at 2", 1), ("5\n; 3 at 1", 0), ("5; 3 at 1\n", 1), ("5; 3 at 1; 4 at 2;", 2), ("none", 0),
                            ("5; change 3 at 1", 1), (" 5; 3 at 1", 0), ("5; none", 1), ("5; 3 at 7; 4 at 5; 5 at 6", 2),
                            ("5; 3 at 1; 4 at 5; 5 at 3", 3), ("5; 3 at 1; 4 at 5; 5 at 5", 3)):
            self.no_text(read_book, text, index)
        self.assertEqual([read_book("0"), read_book("5; 3 at -1; 3 at 0")], [Book(0), Book(5, [(-1, 3), (0, 3)])])

    def test_forty_digits_and_more(self):
        forty = str(FORTY)
        self.assertEqual([read_sighting(forty + " at -" + forty), read_board("0 to " + forty), read_moments("-" + forty)],
                         [(-FORTY, FORTY), (0, FORTY), [-FORTY]])
        for text in ("9" + forty + " at 0", "0 at 9" + forty, "0 at -9" + forty, "0 at -0" + forty):
            self.no_text(read_sighting, text)
        self.no_text(read_book, "1" * 41)
        self.no_text(read_board, "0 to " + "1" * 41)

    def test_one_family(self):
        for call in (read_sighting, read_book, read_board, read_moments, read_deed):
            with self.assertRaises(LabelError):
                call("~")


if __name__ == "__main__":
    unittest.main()
