"""[100] Shops, with what [3], [4] and [12] say of them."""

import unittest
from itertools import product
from random import Random

from helpers import HUGE, Case, odd_values, some_board
from labeltill.books import Book
from labeltill.errors import Clash, LabelError, NoPlace, Nothing, NotLater, Passed, Refused, Wrong
from labeltill.lines import Line
from labeltill.shop import Shop, is_deed
from labeltill.sightings import numbers_at, prices_seen_at, surely_at
from test_sightings import every_row, numbers_at_by_hand

PLACES = "label", "till"
DEEDS = [("change", 10, 250), ("label", 12, 250), ("till", 12, 300), ("change", 20, 400), ("label", 20, 250)]


def doc_shop(deeds=()):
    shop = Shop(300, (0, 4), (0, 3))
    for deed in deeds:
        shop.do(deed)
    return shop


def told(deeds, word):
    return [(moment, price) for kind, moment, price in deeds if kind == word]


def line_by_hand(first, boards, deeds, place):
    return Line(Book(first, told(deeds, "change")), boards[PLACES.index(place)])


def error_by_hand(first, boards, deeds, deed):
    """The class and the object of the error that a deed raises behind others, None if it can be done."""
    word, moment, _ = deed
    ahead = told(deeds, word)
    if word == "change" and ahead and moment <= ahead[-1][0]:
        return NotLater, len(ahead)
    if word != "change" and ahead and moment < ahead[-1][0]:
        return Passed, moment
    behind = deeds + [deed]
    if all(every_row(line_by_hand(first, boards, behind, place), told(behind, place)) for place in PLACES):
        return None
    return Clash, deed


def some_deed(random, deeds):
    """A deed that can often be done behind some others."""
    word = random.choice(["change", "label", "till"])
    last = max([moment for _, moment, _ in deeds], default=0)
    return word, last + random.choice([-3, -1, 0, 0, 1, 1, 2]), random.randint(0, 2)


def state(shop):
    """All that can be asked of a Shop without changing it."""
    asked = [shop.book, shop.log()]
    for place in PLACES:
        asked += [shop.line(place), shop.sightings(place)]
        asked += [call(place, moment) for call in (shop.numbers, shop.prices, shop.surely) for moment in (9, 12, 21)]
    return asked + [shop.charged(12, 13), shop.overs(12, 13)]


def undo_all(shop):
    """The deeds that can be taken back, and then those that could be done again ahead of that, both in order."""
    shop = shop.copied()
    again = rest(shop.again)
    for _ in again:
        shop.back()
    return rest(shop.back), again


def rest(call):
    found = []
    while True:
        try:
            found.append(call())
        except Nothing:
            return found


class ShopTest(Case):
    def refuses(self, error, known, shop, deed):
        """Asks that a deed is refused with an error, and that nothing is changed."""
        ahead, undone = state(shop), undo_all(shop)
        with self.assertRaises(error) as context:
            shop.do(deed)
        self.assertEqual(list(vars(context.exception).values()), [known])
        if error is Clash:
            self.assertIs(context.exception.deed, deed)
        self.assertEqual([state(shop), undo_all(shop)], [ahead, undone])

    def test_deeds_of_any_value(self):
        for word, moment, price in product(("change", "label", "till"), (0, -HUGE, 5, 10 ** 999), (0, 7, HUGE, 10 ** 999)):
            self.assertIs(is_deed((word, moment, price)), True)
        for thing in odd_values() + [
                ["change", 10, 250], ("change", 10), ("change", 10, 250, 0), ("change",), ("changes", 10, 250), ("Change", 10, 250),
                ("", 10, 250), ("labe", 10, 250), ("label till", 10, 250), (" till", 10, 250), ("back", 10, 250), (0, 10, 250),
                (None, 10, 250), (True, 10, 250), (b"till", 10, 250), (("till",), 10, 250), (["till"], 10, 250), ("till", 10, -1),
                ("till", 10, True), ("till", True, 250), ("till", False, 250), ("till", 10, None), ("till", None, 250),
                ("till", "10", 250), ("till", 10, "250"), ("till", (10, 250)), ("till", [10], 250), "till", ("till", "a", "b"),
                {"till": 1, 10: 2, 250: 3}, ("change", 10, -HUGE), (10, 250), [("till", 10, 250)], (10, 250, "till")]:
            self.assertIs(is_deed(thing), False, thing)
        for odd in odd_values():
            if odd != "till":
                self.assertIs(is_deed((odd, 10, 250)), False)
            self.assertIs(is_deed(("label", 10, odd)), False)
            if odd not in (-1, -HUGE):
                self.assertIs(is_deed(("label", odd, 250)), False)

    def test_wrong_arguments(self):
        for odd in odd_values():
            self.fails(Wrong, "place", 0, Shop, odd, (0, 4), (0, 1))
            self.fails(Wrong, "place", 1, Shop, 300, odd, (0, 1))
            self.fails(Wrong, "place", 2, Shop, 300, (0, 4), odd)
            # The first argument that is not as described.
            self.fails(Wrong, "place", 0, Shop, odd, odd, odd)
            self.fails(Wrong, "place", 1, Shop, 0, odd, odd)
        for odd in ((4, 0), [0, 4], (-1, 4), (0, True), (0, 4, 5), "04", (0, "4"), 4):
            self.fails(Wrong, "place", 1, Shop, 300, odd, (0, 1))
            self.fails(Wrong, "place", 2, Shop, 300, (0, 4), odd)
        self.assertEqual(Shop(0, (0, 0), (HUGE, HUGE)).book, Book(0))

    def test_at_first(self):
        shop = Shop(300, (0, 4), (1, 2))
        self.assertEqual([shop.book, shop.log()], [Book(300), []])
        for place, board in (("label", (0, 4)), ("till", (1, 2))):
            self.assertEqual([shop.line(place), shop.sightings(place), shop.numbers(place, 5), shop.prices(place, -HUGE),
                              shop.surely(place, HUGE)], [Line(Book(300), board), [], [0], [300], 300])
        self.assertEqual([shop.charged(0, 0), shop.overs(0, 5)], [(300, 300), (0, 0)])
        for call in (shop.back, shop.again):
            self.assertRaises(Nothing, call)

    def test_deeds_one_after_another(self):
        shop = doc_shop()
        for many, deed in enumerate(DEEDS, start=1):
            self.assertIsNone(shop.do(deed))
            self.assertEqual([shop.log(), shop.book], [DEEDS[:many], Book(300, told(DEEDS[:many], "change"))])
            for place in PLACES:
                self.assertEqual(shop.sightings(place), told(DEEDS[:many], place))
        self.assertEqual([shop.numbers("label", 20), shop.prices("till", 20), shop.surely("label", 21), shop.surely("till", 23)],
                         [[1, 2], [250, 400], None, None])
        self.assertEqual([shop.line("label"), shop.line("till")], [Line(shop.book, (0, 4)), Line(shop.book, (0, 3))])

    def test_what_is_no_deed(self):
        for shop in (doc_shop(), doc_shop(DEEDS)):
            ahead, undone = state(shop), undo_all(shop)
            for odd in odd_values() + [["change", 10, 250], ("change", True, 250), ("till", 30, -1), ("tills", 30, 1)]:
                with self.assertRaises(Wrong) as context:
                    shop.do(odd)
                self.assertEqual(context.exception.place, 0)
            # Ahead of all else: this one is earlier than the last change, too.
            self.fails(Wrong, "place", 0, shop.do, ("change", -HUGE, -1))
            self.assertEqual([state(shop), undo_all(shop)], [ahead, undone])

    def test_not_later(self):
        shop = doc_shop(DEEDS[:1])
        self.refuses(NotLater, 1, shop, ("change", 10, 250))
        self.refuses(NotLater, 1, shop, ("change", 9, 400))
        shop.do(("change", 11, 1))
        self.refuses(NotLater, 2, shop, ("change", 11, 1))
        # Ahead of what would clash, too.
        shop.do(("label", 30, 1))
        self.refuses(NotLater, 2, shop, ("change", 11, 5))
        self.refuses(NotLater, 2, shop, ("change", -HUGE, 5))
        self.refuses(Clash, ("change", 12, 5), shop, ("change", 12, 5))
        shop.back()
        shop.do(("change", 12, 5))
        self.assertEqual(shop.book.moments(), [10, 11, 12])

    def test_passed(self):
        shop = doc_shop([("change", 10, 250), ("label", 12, 250), ("label", 12, 250)])
        self.refuses(Passed, 11, shop, ("label", 11, 250))
        self.refuses(Passed, -HUGE, shop, ("label", -HUGE, 300))
        # Also where it could not be; and the places count by themselves.
        self.refuses(Passed, 11, shop, ("label", 11, 7))
        shop.do(("till", 9, 300))
        self.refuses(Passed, 8, shop, ("till", 8, 300))
        shop.do(("label", 12, 250))
        self.assertEqual([shop.sightings("label"), shop.sightings("till")], [[(12, 250)] * 3, [(9, 300)]])

    def test_clashes_of_sightings(self):
        shop = doc_shop(DEEDS[:1])
        for deed in (("label", 9, 250), ("label", 15, 300), ("till", 14, 300), ("till", 9, 250), ("label", 12, 7)):
            self.refuses(Clash, deed, shop, deed)
        for deed in (("label", 10, 250), ("label", 14, 300), ("till", 13, 300), ("till", 10, 250)):
            shop.do(deed)
            shop.back()
        shop.do(("label", 12, 250))
        self.refuses(Clash, ("label", 12, 300), shop, ("label", 12, 300))
        self.refuses(Clash, ("label", 13, 300), shop, ("label", 13, 300))
        shop.do(("till", 13, 300))
        self.assertEqual(shop.log(), [DEEDS[0], ("label", 12, 250), ("till", 13, 300)])

    def test_clashes_of_changes(self):
        for place, most in (("label", 4), ("till", 3)):
            shop = doc_shop([("change", 10, 250), (place, 30, 250)])
            # The board hears at most so late, and showed the elder price at 30.
            self.refuses(Clash, ("change", 29 - most, 400), shop, ("change", 29 - most, 400))
            self.refuses(Clash, ("change", 11, 400), shop, ("change", 11, 400))
            shop.do(("change", 30 - most, 400))
            self.assertEqual(len(shop.book), 3)
        # A change that tells the price that was is seen by nobody.
        shop = doc_shop([("change", 10, 250), ("label", 30, 250), ("till", 30, 250)])
        shop.do(("change", 11, 250))
        self.refuses(Clash, ("change", 12, 251), shop, ("change", 12, 251))
        self.assertEqual(shop.numbers("label", 30), [2])

    def test_walks_by_all_courses(self):
        kinds = {None: 0, NotLater: 0, Passed: 0, Clash: 0}
        for seed in range(60):
            random = Random(seed)
            first, boards, deeds = random.randint(0, 2), (some_board(random, 2), some_board(random, 2)), []
            shop = Shop(first, *boards)
            for _ in range(14):
                deed = some_deed(random, deeds)
                known = error_by_hand(first, boards, deeds, deed)
                kinds[None if known is None else known[0]] += 1
                if known is None and len(told(deeds, "change")) + (deed[0] == "change") < 4:
                    self.assertIsNone(shop.do(deed))
                    deeds.append(deed)
                elif known is not None:
                    with self.assertRaises(known[0]) as context:
                        shop.do(deed)
                    self.assertEqual(list(vars(context.exception).values()), [known[1]])
                self.assertEqual([shop.log(), shop.book], [deeds, Book(first, told(deeds, "change"))])
        self.assertTrue(min(kinds.values()) > 60, kinds)

    def test_asked_by_all_courses(self):
        for seed in range(40):
            random = Random(seed)
            first, boards, deeds = random.randint(0, 2), (some_board(random, 2), some_board(random, 2)), []
            shop = Shop(first, *boards)
            for _ in range(9):
                deed = some_deed(random, deeds)
                if len(told(deeds + [deed], "change")) < 4 and error_by_hand(first, boards, deeds, deed) is None:
                    shop.do(deed)
                    deeds.append(deed)
            lines = [line_by_hand(first, boards, deeds, place) for place in PLACES]
            self.assertEqual([shop.line(place) for place in PLACES], lines)
            last = max([moment for _, moment, _ in deeds], default=0)
            known = {}
            for place, line in zip(PLACES, lines):
                sightings = told(deeds, place)
                for moment in range(-3, last + 5):
                    numbers = numbers_at_by_hand(line, sightings, moment)
                    known[place, moment] = sorted({line.book[number] for number in numbers})
                    self.assertEqual([shop.numbers(place, moment), shop.prices(place, moment)], [numbers, known[place, moment]])
                    self.assertEqual([shop.numbers(place, moment), shop.prices(place, moment), shop.surely(place, moment)],
                                     [numbers_at(line, sightings, moment), prices_seen_at(line, sightings, moment),
                                      surely_at(line, sightings, moment)])
            for moment, later in product(range(-3, last + 5), repeat=2):
                if moment <= later:
                    pairs = list(product(known["label", moment], known["till", later]))
                    charged, overs = [min(pair) for pair in pairs], [asked - shown for shown, asked in pairs]
                    self.assertEqual([shop.charged(moment, later), shop.overs(moment, later)],
                                     [(min(charged), max(charged)), (min(overs), max(overs))])

    def test_charged_and_overs_by_hand(self):
        shop = doc_shop(DEEDS)
        # At 20 the label can show 250 and 400, the till 250 and 400; at 19 both surely show 250.
        for moment, later, charged, overs in ((9, 9, (300, 300), (0, 0)), (11, 13, (250, 300), (-50, 50)),
                                              (12, 12, (250, 300), (-50, 50)), (14, 14, (250, 250), (0, 0)),
                                              (19, 19, (250, 250), (0, 0)), (19, 20, (250, 250), (0, 150)),
                                              (20, 20, (250, 400), (-150, 150)), (25, 25, (400, 400), (0, 0)),
                                              (9, 25, (300, 300), (100, 100)), (-HUGE, HUGE, (300, 300), (100, 100))):
            self.assertEqual([shop.charged(moment, later), shop.overs(moment, later)], [charged, overs], (moment, later))

    def test_all_at_once(self):
        shop = doc_shop()
        deeds = list(DEEDS)
        self.assertIsNone(shop.do_all(deeds))
        self.assertEqual([state(shop), deeds], [state(doc_shop(DEEDS)), DEEDS])
        self.assertEqual(undo_all(shop), (DEEDS[::-1], []))
        deeds.clear()
        self.assertEqual(shop.log(), DEEDS)
        # They count as all of them: each is taken back by itself.
        self.assertEqual([shop.back(), shop.back(), shop.log()], [DEEDS[4], DEEDS[3], DEEDS[:3]])
        shop.do_all([DEEDS[3]])
        self.assertRaises(Nothing, shop.again)

    def test_none_at_once(self):
        shop = doc_shop(DEEDS)
        shop.back()
        shop.back()
        self.assertIsNone(shop.do_all([]))
        # As none of them, so that what was taken back can be done again.
        self.assertEqual([shop.again(), shop.do_all([]), shop.again(), shop.log()], [DEEDS[3], None, DEEDS[4], DEEDS])
        self.assertRaises(Nothing, shop.again)
        empty = doc_shop()
        empty.do_all([])
        self.assertRaises(Nothing, empty.back)

    def test_all_refused(self):
        shop = doc_shop(DEEDS)
        shop.back()
        shop.back()
        ahead, undone = state(shop), undo_all(shop)
        self.assertEqual(undone, (DEEDS[2::-1], DEEDS[3:]))
        good = [("change", 20, 400), ("till", 20, 250)]
        for odd in odd_values() + [["change", 30, 1], ("change", 20, 500), ("change", 9, 1), ("till", 19, 250), ("label", 11, 250),
                                   ("label", 21, 300), ("till", 24, 250), ("change", 30, -1), ("back",), "back"]:
            for deeds in (good + [odd], good + [odd, ("label", -HUGE, 0)], good + [odd] + good):
                self.fails(Refused, "deed", odd, shop.do_all, deeds)
        for odd in (("change", 10, 1), ("label", 11, 250), None, ("till", 12, 7)):
            self.fails(Refused, "deed", odd, shop.do_all, [odd])
            self.fails(Refused, "deed", odd, shop.do_all, [odd] + good)
        # The first one that cannot be done then, behind those that could be; ahead of them it could have been done.
        early = ("label", 21, 250)
        self.fails(Refused, "deed", early, shop.do_all, [("change", 16, 1), early, None])
        self.assertEqual([state(shop), undo_all(shop)], [ahead, undone])
        shop.do_all([early])
        self.assertEqual(shop.sightings("label"), [(12, 250), (21, 250)])

    def test_back_and_again_to_both_ends(self):
        shop = doc_shop()
        states = [state(shop)]
        for deed in DEEDS:
            shop.do(deed)
            states.append(state(shop))
        for _ in range(2):
            for many in reversed(range(len(DEEDS))):
                self.assertIs(shop.back(), DEEDS[many])
                self.assertEqual(state(shop), states[many])
            for _ in range(2):
                self.assertRaises(Nothing, shop.back)
                self.assertEqual(state(shop), states[0])
            for many, deed in enumerate(DEEDS, start=1):
                self.assertIs(shop.again(), deed)
                self.assertEqual(state(shop), states[many])
            for _ in range(2):
                self.assertRaises(Nothing, shop.again)
                self.assertEqual(state(shop), states[-1])

    def test_back_again_and_another_deed(self):
        shop = doc_shop(DEEDS)
        self.assertEqual([shop.back(), shop.back(), shop.back(), shop.again()], [DEEDS[4], DEEDS[3], DEEDS[2], DEEDS[2]])
        self.assertEqual([shop.log(), undo_all(shop)], [DEEDS[:3], (DEEDS[2::-1], DEEDS[3:])])
        self.refuses(NotLater, 1, shop, ("change", 9, 1))
        self.refuses(Passed, 11, shop, ("label", 11, 250))
        self.refuses(Clash, ("label", 12, 300), shop, ("label", 12, 300))
        self.assertEqual(shop.again(), DEEDS[3])
        shop.back()
        # Another deed, even one that is equal, lets nothing be done again.
        shop.do(("change", 20, 400))
        self.assertRaises(Nothing, shop.again)
        self.assertEqual([shop.log(), shop.back(), shop.again()], [DEEDS[:4], DEEDS[3], DEEDS[3]])

    def test_copied(self):
        shop = doc_shop(DEEDS)
        shop.back()
        shop.back()
        known, undone = state(shop), undo_all(shop)
        other = shop.copied()
        self.assertIs(other.__class__, Shop)
        self.assertIsNot(other, shop)
        self.assertEqual([state(other), undo_all(other)], [known, undone])
        other.do(("change", 30, 7))
        self.assertRaises(Nothing, other.again)
        self.assertEqual([state(shop), undo_all(shop)], [known, undone])
        third = shop.copied()
        self.assertEqual([shop.again(), shop.again(), shop.back()], [DEEDS[3], DEEDS[4], DEEDS[4]])
        self.assertEqual([state(third), undo_all(third)], [known, undone])
        self.assertEqual([third.back(), third.back(), third.again()], [DEEDS[2], DEEDS[1], DEEDS[1]])
        self.assertEqual([shop.log(), other.log(), third.log()],
                         [DEEDS[:4], DEEDS[:3] + [("change", 30, 7)], DEEDS[:2]])
        self.assertEqual(state(doc_shop().copied()), state(doc_shop()))

    def test_what_is_no_place(self):
        shop = doc_shop(DEEDS)
        for odd in odd_values() + ["Label", "change", "", "tills", " label", b"label", ("label",), ["till"], 0, 1, "label till"]:
            if odd != "till":
                self.fails(NoPlace, "place", odd, shop.line, odd)
                self.fails(NoPlace, "place", odd, shop.sightings, odd)
                for call in (shop.numbers, shop.prices, shop.surely):
                    self.fails(NoPlace, "place", odd, call, odd, 12)
        with self.assertRaises(LabelError):
            shop.line(None)

    def test_moved_and_scaled(self):
        for by in (HUGE, -HUGE):
            shop = doc_shop([(word, moment + by, price) for word, moment, price in DEEDS])
            plain = doc_shop(DEEDS)
            self.assertEqual(shop.book, plain.book.moved(by))
            for place in PLACES:
                for moment in range(5, 30):
                    for call, other in ((shop.numbers, plain.numbers), (shop.prices, plain.prices), (shop.surely, plain.surely)):
                        self.assertEqual(call(place, moment + by), other(place, moment))
            for moment, wait in product(range(5, 30), (0, 1, 7)):
                self.assertEqual([shop.charged(moment + by, moment + wait + by), shop.overs(moment + by, moment + wait + by)],
                                 [plain.charged(moment, moment + wait), plain.overs(moment, moment + wait)])
            self.refuses(Passed, 11 + by, shop, ("label", 11 + by, 250))
            self.refuses(Clash, ("till", 24 + by, 250), shop, ("till", 24 + by, 250))
            self.assertEqual(shop.back(), ("label", 20 + by, 250))
        shop, plain = Shop(2100, (0, 4), (0, 3)), doc_shop(DEEDS)
        shop.do_all([(word, moment, 7 * price) for word, moment, price in DEEDS])
        self.assertEqual(shop.book, plain.book.scaled(7))
        for moment in range(5, 30):
            self.assertEqual([shop.prices("label", moment), shop.charged(moment, moment + 1), shop.overs(moment, moment + 1)],
                             [[7 * price for price in plain.prices("label", moment)],
                              tuple(7 * price for price in plain.charged(moment, moment + 1)),
                              tuple(7 * price for price in plain.overs(moment, moment + 1))])

    def test_great_numbers(self):
        shop = Shop(HUGE, (0, HUGE), (HUGE, HUGE))
        shop.do_all([("change", -HUGE, HUGE - 1), ("label", 0, HUGE), ("till", 0, HUGE), ("till", 0, HUGE - 1), ("change", HUGE, 0)])
        self.assertEqual([shop.numbers("label", 0), shop.numbers("till", 0), shop.surely("label", 1), shop.surely("till", HUGE)],
                         [[0, 1], [0, 1], HUGE - 1, HUGE - 1])
        self.assertEqual([shop.charged(0, 2 * HUGE), shop.overs(0, 2 * HUGE), shop.charged(2 * HUGE, 2 * HUGE)],
                         [(0, HUGE - 1), (-HUGE, 0), (0, HUGE - 1)])
        self.refuses(Clash, ("label", 2 * HUGE + 1, HUGE - 1), shop, ("label", 2 * HUGE + 1, HUGE - 1))
        self.refuses(Passed, -1, shop, ("till", -1, HUGE))
        self.refuses(NotLater, 2, shop, ("change", HUGE, 1))

    def test_twelve_changes_and_ten_sightings(self):
        shop = Shop(0, (0, 15), (0, 15))
        deeds = []
        for index in range(12):
            deeds.append(("change", 10 * index, index % 3))
            if index < 10:
                deeds += [("label", 10 * index + 5, index % 3), ("till", 10 * index + 5, max(0, index - 1) % 3)]
        shop.do_all(deeds)
        self.assertEqual([shop.log(), len(shop.book), len(shop.sightings("till"))], [deeds, 13, 10])
        self.assertEqual([shop.numbers("label", 96), shop.numbers("till", 96), shop.numbers("till", 106)],
                         [[10], [9, 10], [10, 11]])
        self.assertEqual(undo_all(shop), (deeds[::-1], []))

    def test_books_and_lists_that_were_told_stay(self):
        shop = doc_shop(DEEDS[:2])
        book, line, log, seen = shop.book, shop.line("label"), shop.log(), shop.sightings("label")
        shop.do(("change", 20, 400))
        shop.back()
        shop.back()
        self.assertEqual([book, line, log, seen], [Book(300, [(10, 250)]), Line(book, (0, 4)), DEEDS[:2], [(12, 250)]])
        log.clear()
        seen.append(None)
        for call in (shop.numbers, shop.prices):
            call("label", 12).clear()
        self.assertEqual([shop.again(), shop.log(), shop.sightings("label"), shop.numbers("label", 12), shop.prices("label", 13)],
                         [DEEDS[1], DEEDS[:2], [(12, 250)], [0, 1], [250]])
        shop.log().clear()
        shop.sightings("label").clear()
        self.assertEqual([shop.back(), shop.back()], DEEDS[1::-1])

    def test_by_turns(self):
        one, other = doc_shop(), Shop(5, (1, 1), (2, 2))
        for deed in DEEDS[:3]:
            one.do(deed)
            other.do(("change", deed[1] + len(other.book), deed[2]))
        self.assertEqual([one.book, other.book], [Book(300, [(10, 250)]), Book(5, [(11, 250), (14, 250), (15, 300)])])
        for _ in range(3):
            self.assertEqual([one.numbers("label", 12), other.numbers("label", 12), one.surely("till", 20), other.surely("till", 20)],
                             [[0, 1], [0, 1], 250, 300])
            self.assertEqual([one.charged(12, 12), other.charged(12, 12), one.overs(13, 13), other.overs(13, 13)],
                             [(250, 300), (5, 5), (0, 50), (-245, 0)])
        self.assertEqual([one.back(), other.back(), one.again(), other.again()],
                         [DEEDS[2], ("change", 15, 300)] * 2)


if __name__ == "__main__":
    unittest.main()
