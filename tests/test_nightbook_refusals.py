"""What a nightbook refuses, in which order, and that it stays as it was then."""

import unittest

from anything import anything
from asking import already, bad, none_such, too_many
from bindbench.dealings import Nightbook
from bindbench.halls import Hall
from hallwork import lost_slots, numbers, order, orders_of
from nightwork import stand


class Refusals(unittest.TestCase):
    def setUp(self):
        # The last deed moved one, so that there are levels to be left as they are.
        self.book = Nightbook(Hall([10], [(9, 1)]))
        self.book.bring(order(7, 1, 0, 2))
        self.book.bring(order(8))
        self.book.bring(order(9, due=200))
        self.book.drop(9)
        self.book.bring(order(3, 1, 1, due=50))
        self.told = stand(self.book)
        self.assertEqual((len(self.book), len(self.book.levels())), (3, 1))

    def tearDown(self):
        self.assertEqual(stand(self.book), self.told)

    def test_halls_of_anything(self):
        for called, thing in anything():
            with self.subTest(called):
                bad(self, "hall", Nightbook, thing)
        bad(self, "hall", Nightbook, hall=[10])

    def test_bring(self):
        for called, thing in anything():
            with self.subTest(called):
                bad(self, "order", self.book.bring, thing)
        for thing in [order(4).of_job(), 4, [order(4)], str(order(4)), self.book]:
            bad(self, "order", self.book.bring, thing)
        for one in [order(7, 1, 0, 2), order(7), order(8, haste=True)]:
            already(self, "order", one.numbered(), self.book.bring, one)

    def test_numbers(self):
        for called, thing in anything():
            with self.subTest(called):
                none_such(self, "order", thing, self.book.drop, thing)
                none_such(self, "order", thing, self.book.hasten, thing)
                none_such(self, "order", thing, self.book.hasten, thing, thing)
                none_such(self, "order", thing, self.book.slot_of, thing)
        for number in (0, 1, 9, -7, 100000, "7", (7,)):
            none_such(self, "order", number, self.book.drop, number)
            none_such(self, "order", number, self.book.hasten, haste=None, number=number)
            none_such(self, "order", number, self.book.slot_of, number)

    def test_a_truth_is_no_number(self):
        book = Nightbook(Hall([10]))
        book.bring(order(1))
        for ask in (book.drop, book.hasten, book.slot_of):
            none_such(self, "order", True, ask, True)

    def test_haste(self):
        for called, thing in anything(but=["True", "False"]):
            with self.subTest(called):
                bad(self, "haste", self.book.hasten, 7, thing)
        bad(self, "haste", self.book.hasten, haste=0, number=8)

    def test_slots(self):
        for called, thing in anything():
            with self.subTest(called):
                for slot in [thing, (thing, thing, 1), (thing, 2), (2, thing, 1)]:
                    none_such(self, "slot", slot, self.book.lose, slot)
                    none_such(self, "slot", slot, self.book.restore, slot)
        for slot in [(0, 2), (0, 0), (-1, 1), (100000, 1), [0, 1], (0, True), (False, 1), (9, 2)]:
            none_such(self, "slot", slot, self.book.lose, slot)
            none_such(self, "slot", slot, self.book.restore, slot)
        for slot in [(0, 1), (5, 1)]:
            none_such(self, "slot", slot, self.book.restore, slot)


class TooMuch(unittest.TestCase):
    def test_orders(self):
        book = Nightbook(Hall([10]))
        for one in orders_of(40):
            book.bring(one)
        told = stand(book)
        too_many(self, 40, book.bring, order(41))
        already(self, "order", 40, book.bring, order(40))
        bad(self, "order", book.bring, None)
        self.assertEqual((stand(book), len(book)), (told, 40))
        book.drop(3)
        self.assertEqual(book.bring(order(41, 1, 3)), ((41,), (), ()))

    def test_lost_slots(self):
        book = Nightbook(Hall([10], lost_slots(99)))
        book.bring(order(7, 1, 200))
        book.lose((150, 1))
        told = stand(book)
        too_many(self, 100, book.lose, (200, 1))
        none_such(self, "slot", (200, 2), book.lose, (200, 2))
        self.assertEqual((book.lose((150, 1)), book.lose((0, 1))), (((), (), ()),) * 2)
        self.assertEqual((stand(book), numbers(book.orders()), book.kept()), (told, [7], [7]))
        book.restore((0, 1))
        self.assertEqual(book.lose((200, 1)), ((), (7,), ()))


if __name__ == "__main__":
    unittest.main()
