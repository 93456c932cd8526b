"""A stock: how its pages are gone through, which sets are cut of which lots, and where the inches are."""

import random
import unittest

from anything import anything
from asking import alike, already, bad, none_such, too_many, unlike_anything
from bindbench.stuffs import Stock
from stockwork import Counted, letters, lot, some_pages, some_stocks, spoil, stock_of, stock_told, wanted


def dukes(day=4):
    return wanted(day, "dukes", (7, 12), (9, 30))


class Put(unittest.TestCase):
    def test_true_and_false(self):
        stock = Stock()
        self.assertEqual((stock.pages(), stock.lots(), stock.sets(), len(stock), bool(stock)), ([], [], [], 0, False))
        self.assertIs(stock.put(lot(3, "oaka", 500)), True)
        self.assertIs(stock.put(page=dukes()), True)
        self.assertIs(stock.put(spoil(5, "dukes", 7)), True)
        told = stock_told(stock)
        for page in [lot(3, "oaka", 500), dukes(), spoil(5, "dukes", 7)]:
            self.assertIs(stock.put(page), False)
        self.assertEqual((stock_told(stock), len(stock), bool(stock)), (told, 3, True))

    def test_of_anything(self):
        stock = stock_of(lot(3, "oaka", 500), dukes())
        told = stock_told(stock)
        for called, thing in anything():
            with self.subTest(called):
                bad(self, "page", stock.put, thing)
                bad(self, "page", stock.put, ("lot", thing, "red", "oaka", True))
                bad(self, "page", stock.put, ("set", 4, "dukes", "red", (thing, (9, 30))))
        for page in [list(dukes()), lot(3, "oaka", 0), "lot 3 red oaka 500", lot(True, "oak", 5), spoil(5, "dukes", 0)]:
            bad(self, "page", stock.put, page)
        self.assertEqual(stock_told(stock), told)

    def test_a_lot_or_a_set_of_the_same_name(self):
        stock = stock_of(lot(3, "oaka", 500), dukes())
        told = stock_told(stock)
        for page in [lot(4, "oaka", 500), lot(3, "oaka", 501), lot(3, "oaka", 500, "blue"), lot(0, "oaka", 1)]:
            already(self, "lot", "oaka", stock.put, page)
        for page in [dukes(5), wanted(4, "dukes", (7, 12)), wanted(4, "dukes", (7, 12), (9, 30), colour="blue")]:
            already(self, "set", "dukes", stock.put, page)
        self.assertEqual(stock_told(stock), told)
        self.assertIs(stock.put(lot(4, "dukes", 5)), True)
        self.assertIs(stock.put(wanted(4, "oaka", (1, 1))), True)
        self.assertIs(stock.put(spoil(5, "nobody", 7)), True)

    def test_a_hundred_and_one_more(self):
        stock = stock_of(lot(3, "oaka", 500), dukes(), *[spoil(5, "dukes", number) for number in range(1, 98)])
        self.assertIs(stock.put(spoil(5, "dukes", 98)), True)
        told = stock_told(stock)
        self.assertEqual(len(stock), 100)
        too_many(self, 100, stock.put, spoil(5, "dukes", 99))
        too_many(self, 100, stock.put, lot(3, "oakb", 500))
        # What is due ahead of that.
        bad(self, "page", stock.put, spoil(5, "dukes", 0))
        self.assertIs(stock.put(spoil(5, "dukes", 98)), False)
        self.assertIs(stock.put(lot(3, "oaka", 500)), False)
        already(self, "lot", "oaka", stock.put, lot(3, "oaka", 501))
        already(self, "set", "dukes", stock.put, dukes(5))
        self.assertEqual(stock_told(stock), told)


class GoneThrough(unittest.TestCase):
    def test_in_which_order(self):
        pages = [lot(1, "oakb", 5), lot(2, "oaka", 5, "blue"), lot(2, "oaka" + "x", 5), lot(2, "oak", 5),
                 wanted(2, "b", (1, 1), colour="blue"), wanted(2, "c", (1, 1), colour="a"), spoil(2, "a", 2),
                 spoil(2, "a", 10), spoil(2, "b", 1), lot(10, "a", 1), spoil(10, "a", 1)]
        dice = random.Random(92)
        for _ in range(9):
            told = dice.sample(pages, len(pages))
            self.assertEqual(stock_of(*told).pages(), [pages[0], pages[1], pages[3]] + [pages[2]] + pages[4:])

    def test_a_set_is_cut_as_soon_as_it_can_be(self):
        self.assertEqual(stock_of(dukes()).lot_of("dukes"), None)
        self.assertEqual(stock_of(dukes(), lot(9, "oaka", 42)).lots(), [("oaka", 0, 42, 0)])
        self.assertEqual(stock_of(dukes(), lot(9, "oaka", 41)).lots(), [("oaka", 41, 0, 0)])
        self.assertEqual(stock_of(dukes(), lot(9, "oaka", 500, "blue")).lot_of("dukes"), None)
        self.assertEqual(stock_of(dukes(), lot(4, "oaka", 500)).lot_of("dukes"), "oaka")

    def test_of_the_lot_with_the_fewest_left_that_has_enough(self):
        lots = [lot(1, "oaka", 100), lot(1, "oakb", 50), lot(1, "oakc", 41), lot(1, "oakd", 50), lot(1, "oake", 60)]
        self.assertEqual(stock_of(dukes(), *lots).lot_of("dukes"), "oakb")
        self.assertEqual(stock_of(dukes(), lots[0], lots[4], lots[3]).lot_of("dukes"), "oakd")
        self.assertEqual(stock_of(dukes(), lots[0], lots[2]).lot_of("dukes"), "oaka")
        # Left, not come: of oake there are fewer left than of oakb when the second one is cut.
        stock = stock_of(lot(1, "oake", 60), wanted(1, "a", (1, 15)), lot(2, "oakb", 50), dukes())
        self.assertEqual((stock.lot_of("dukes"), stock.lots()), ("oake", [("oakb", 50, 0, 0), ("oake", 3, 57, 0)]))

    def test_of_several_first_the_one_whose_page_is_ahead(self):
        first, second, third = wanted(1, "c", (1, 10)), wanted(2, "a", (1, 10)), wanted(2, "b", (1, 5))
        stock = stock_of(third, second, first, lot(3, "oaka", 25))
        self.assertEqual([stock.lot_of(name) for name in "cab"], ["oaka", "oaka", "oaka"])
        stock = stock_of(third, second, first, lot(3, "oaka", 16))
        self.assertEqual((stock.sets(False), stock.sets(True)), (["b", "c"], ["a"]))
        stock = stock_of(third, second, first, lot(3, "oaka", 9))
        self.assertEqual((stock.sets(False), stock.sets(True)), (["b"], ["a", "c"]))

    def test_a_spoiled_cover_is_cut_anew(self):
        stock = stock_of(dukes(), lot(3, "oaka", 60), spoil(5, "dukes", 7))
        self.assertEqual((stock.lots(), stock.lot_of("dukes")), ([("oaka", 6, 42, 12)], "oaka"))
        stock = stock_of(dukes(), lot(3, "oaka", 54), spoil(5, "dukes", 7))
        self.assertEqual((stock.lots(), stock.lot_of("dukes")), ([("oaka", 0, 42, 12)], "oaka"))

    def test_all_others_are_spoiled_where_it_cannot_be(self):
        stock = stock_of(dukes(), lot(3, "oaka", 53), spoil(5, "dukes", 7))
        self.assertEqual((stock.lots(), stock.lot_of("dukes"), stock.lacks("dukes")),
                         ([("oaka", 11, 0, 42)], None, 31))
        stock.put(lot(3, "oakb", 100))
        self.assertEqual((stock.lots(), stock.lot_of("dukes")), ([("oaka", 11, 0, 42), ("oakb", 58, 42, 0)], "oakb"))
        stock.put(spoil(5, "dukes", 9))
        self.assertEqual(stock.lots(), [("oaka", 11, 0, 42), ("oakb", 28, 42, 30)])
        # The set that waits again is cut by its page's place, ahead of one that waited all the time.
        stock = stock_of(dukes(), lot(3, "oaka", 53), spoil(5, "dukes", 7), wanted(5, "b", (1, 50)), lot(6, "oakb", 60))
        self.assertEqual((stock.sets(False), stock.sets(True)), (["dukes"], ["b"]))

    def test_spoils_of_one_day_as_they_are_ordered(self):
        stock = stock_of(wanted(1, "a", (2, 5), (10, 6)), wanted(1, "b", (1, 7)), lot(1, "oaka", 25),
                         spoil(2, "b", 1), spoil(2, "a", 10), spoil(2, "a", 2))
        # 2, then 10 (which can't be cut anew, so both are spoiled), then b's, which can't be either.
        self.assertEqual(stock.lots(), [("oaka", 2, 0, 23)])
        self.assertEqual(stock.sets(True), ["a", "b"])

    def test_other_spoils_do_nothing(self):
        ahead = stock_told(stock_of(dukes(), lot(3, "oaka", 100)))[1:6]
        for page in [spoil(3, "dukes", 7), spoil(0, "dukes", 7), spoil(5, "dukes", 8), spoil(5, "duke", 7)]:
            self.assertEqual(stock_told(stock_of(page, dukes(), lot(3, "oaka", 100)))[1:6], ahead)
        waiting = stock_of(dukes(), spoil(4, "dukes", 7), lot(5, "oaka", 100))
        self.assertEqual(waiting.lots(), [("oaka", 58, 42, 0)])
        self.assertEqual(stock_of(dukes(), lot(3, "oaka", 100), spoil(4, "dukes", 7)).lots(), [("oaka", 46, 42, 12)])

    def test_against_covers_counted_one_by_one(self):
        dice = random.Random(93)
        seen = {}
        for pages in some_stocks(94, 250):
            counted = Counted(pages)
            for _ in range(2):
                dice.shuffle(pages)
                stock = stock_of(*pages)
                self.assertEqual(stock_told(stock), counted.told())
            for name, left, on_books, spoiled in stock.lots():
                self.assertEqual(left + on_books + spoiled, counted.came[name][4])
                seen[(left > 0, on_books > 0, spoiled > 0)] = True
            self.assertTrue(all(stock.lacks(name) > 0 for name in stock.sets(True)))
        self.assertEqual(len(seen), 7)

    def test_page_by_page(self):
        for pages in some_stocks(95, 25):
            stock = Stock()
            for place, page in enumerate(pages):
                stock.put(page)
                self.assertEqual(stock_told(stock), Counted(pages[:place + 1]).told())


class Told(unittest.TestCase):
    def test_sets(self):
        stock = stock_of(dukes(), wanted(1, "earls", (1, 1)), wanted(9, "barons", (1, 1000)), lot(3, "oaka", 50))
        self.assertEqual(stock.sets(), ["barons", "dukes", "earls"])
        self.assertEqual((stock.sets(None), stock.sets(waiting=True)), (stock.sets(), ["barons"]))
        self.assertEqual((stock.sets(False), stock.sets(True)), (["dukes", "earls"], ["barons"]))
        for called, thing in anything(but=["None", "True", "False"]):
            with self.subTest(called):
                bad(self, "waiting", stock.sets, thing)

    def test_of_one_set(self):
        stock = stock_of(dukes(), lot(3, "oaka", 42), wanted(5, "earls", (1, 8), (2, 3)))
        self.assertEqual((stock.lot_of("dukes"), stock.lacks("dukes"), stock.covers("dukes")),
                         ("oaka", 0, [(7, 12), (9, 30)]))
        self.assertEqual((stock.lot_of(name="earls"), stock.lacks(name="earls"), stock.covers(name="earls")),
                         (None, 11, [(1, 8), (2, 3)]))
        stock.put(lot(9, "oakb", 4))
        stock.put(lot(9, "oakc", 10))
        stock.put(lot(9, "oakd", 500, "blue"))
        self.assertEqual(stock.lacks("earls"), 1)

    def test_no_such_set(self):
        stock = stock_of(dukes(), lot(3, "oaka", 42))
        for ask in (stock.lot_of, stock.lacks, stock.covers):
            for called, thing in anything():
                with self.subTest(called):
                    none_such(self, "set", thing, ask, thing)
            for name in ("oaka", "duke", "", "Dukes", ("dukes",), 7):
                none_such(self, "set", name, ask, name)

    def test_lists_told_are_the_askers_own(self):
        stock = stock_of(dukes(), wanted(5, "earls", (1, 80)), lot(3, "oaka", 42))
        for ask in (stock.pages, stock.lots, stock.sets, lambda: stock.covers("dukes"), lambda: stock.sets(True),
                    lambda: stock.sets(False)):
            told, again = ask(), ask()
            self.assertIs(type(told), list)
            told.clear()
            self.assertEqual((len(again) > 0, ask()), (True, again))

    def test_a_copy_goes_on_by_itself(self):
        stock = stock_of(dukes(), lot(3, "oaka", 42))
        other, told = stock.copy(), stock_told(stock)
        self.assertEqual((stock_told(other), type(other), other), (told, Stock, stock))
        other.put(spoil(5, "dukes", 7))
        self.assertEqual((stock_told(stock), stock == other), (told, False))
        once_more = stock_told(other)
        stock.put(lot(3, "oakb", 500))
        self.assertEqual(stock_told(other), once_more)
        self.assertEqual(stock_told(Stock().copy()), stock_told(Stock()))

    def test_alike_in_whatever_order_they_came(self):
        dice = random.Random(96)
        for pages in some_stocks(97, 20):
            alike(self, stock_of(*pages), stock_of(*dice.sample(pages, len(pages))), True)
            if pages:
                alike(self, stock_of(*pages), stock_of(*pages[1:]), False)
        alike(self, Stock(), Stock(), True)
        alike(self, stock_of(lot(3, "oaka", 42)), stock_of(lot(3, "oaka", 43)), False)
        alike(self, stock_of(lot(3, "oaka", 42)), stock_of(lot(3, "oaka", 42), spoil(0, "a", 1)), False)

    def test_with_what_is_no_stock(self):
        unlike_anything(self, stock_of(dukes()), [dukes()], dukes())
        unlike_anything(self, Stock(), [])


class Much(unittest.TestCase):
    def test_a_hundred_pages(self):
        dice = random.Random(98)
        for pages in (some_pages(dice, 100), waiting_all()):
            stock = stock_of(*pages)
            self.assertEqual((len(stock), stock_told(stock)), (100, Counted(pages).told()))


def waiting_all():
    """Fifty sets that wait, and fifty lots of which none has enough."""
    lots = [lot(2, "o" + letters(number), 10 + number) for number in range(50)]
    return lots + [wanted(1, "s" + letters(number), (number + 1, 100)) for number in range(50)]


if __name__ == "__main__":
    unittest.main()
