"""What a nightbook answers to a deed: who comes in, who goes out, and as few moved as can be."""

import unittest

from asking import alike, unlike_anything
from bindbench.dealings import Nightbook
from bindbench.halls import Hall
from hallwork import fits, full_house, numbers, order, ranked, tight_house
from nightwork import NOTHING, answers_well, moves_fewest, some_deeds, stand


def book_of(hall, *orders):
    book = Nightbook(hall)
    for one in orders:
        book.bring(one)
    return book


def in_a_row():
    """One frame on four nights, three orders of two nights each, the least of them in the last place but one."""
    return book_of(Hall([10]), order(1, 1, 0, 1), order(2, 1, 1, 2), order(3, 1, 2, 3))


class Deeds(unittest.TestCase):
    def test_at_first(self):
        hall = Hall([10, 20], [(3, 1)])
        book = Nightbook(hall)
        self.assertEqual(stand(book), (hall, [], [], [], (), 0))
        self.assertEqual((Nightbook(hall=hall), bool(book)), (book, False))

    def test_bring(self):
        book = Nightbook(Hall([10]))
        self.assertEqual(book.bring(order(7)), ((7,), (), ()))
        self.assertEqual((book.kept(), book.dealing(), book.slot_of(7), book.levels()),
                         ([7], [(7, (0, 1))], (0, 1), ()))
        self.assertEqual(book.bring(order=order(8, due=200)), NOTHING)
        self.assertEqual((book.kept(), book.slot_of(8), numbers(book.orders())), ([7], None, [7, 8]))
        self.assertEqual(book.bring(order(9, due=50)), ((9,), (7,), ()))
        self.assertEqual((book.dealing(), numbers(book.orders()), len(book)), ([(9, (0, 1))], [9, 7, 8], 1))
        self.assertEqual(book.bring(order(4, 11)), NOTHING)

    def test_bring_moves_as_few_as_can_be(self):
        book = in_a_row()
        self.assertEqual(book.dealing(), [(1, (0, 1)), (2, (1, 1)), (3, (2, 1))])
        self.assertEqual(book.bring(order(4, 1, 0)), ((4,), (), ((1, (0, 1), (1, 1)), (2, (1, 1), (2, 1)),
                                                                  (3, (2, 1), (3, 1)))))
        self.assertEqual(book.levels(), (((0, 1),), ((1, 1),), ((2, 1),)))
        book = in_a_row()
        self.assertEqual(book.bring(order(4, 1, 0, 2)), ((4,), (), ((3, (2, 1), (3, 1)),)))
        self.assertEqual(book.levels(), (((0, 1), (1, 1), (2, 1)),))

    def test_drop(self):
        book = book_of(Hall([10]), order(7), order(8, due=200), order(9, due=300))
        self.assertEqual(book.drop(9), NOTHING)
        self.assertEqual(book.drop(number=7), ((8,), (7,), ()))
        self.assertEqual((book.dealing(), numbers(book.orders())), ([(8, (0, 1))], [8]))
        self.assertEqual((book.drop(8), book.dealing(), book.orders(), len(book)), (((), (8,), ()), [], [], 0))

    def test_hasten(self):
        book = book_of(Hall([10]), order(7), order(8, due=200))
        self.assertEqual(book.hasten(8), ((8,), (7,), ()))
        self.assertEqual((numbers(book.orders()), book.orders()[0].of_job().in_haste()), ([8, 7], True))
        self.assertEqual(book.hasten(7), ((7,), (8,), ()))
        self.assertEqual(book.hasten(haste=False, number=7), ((8,), (7,), ()))
        self.assertEqual((book.orders(), book.kept()), ([order(8, due=200, haste=True), order(7)], [8]))

    def test_haste_or_none_already(self):
        book = book_of(Hall([10]), order(7), order(8, due=200, haste=True))
        told = stand(book)
        self.assertEqual((book.hasten(7, False), book.hasten(8), book.hasten(8, True)), (NOTHING,) * 3)
        self.assertEqual(stand(book), told)

    def test_lose(self):
        book = book_of(Hall([10]), order(7, 1, 0, 1), order(8, due=200))
        self.assertEqual((book.dealing(), book.levels()), ([(7, (1, 1)), (8, (0, 1))], (((0, 1),),)))
        self.assertEqual(book.lose((5, 1)), NOTHING)
        self.assertEqual((book.hall(), book.levels()), (Hall([10], [(5, 1)]), ()))
        self.assertEqual(book.lose(slot=(1, 1)), ((), (8,), ((7, (1, 1), (0, 1)),)))
        self.assertEqual((book.kept(), book.slot_of(8)), ([7], None))
        self.assertEqual(book.lose((0, 1)), ((), (7,), ()))
        self.assertEqual((book.kept(), book.hall().lost()), ([], [(0, 1), (1, 1), (5, 1)]))

    def test_the_one_that_loses_its_slot_and_moves_others(self):
        book = in_a_row()
        self.assertEqual(book.lose((0, 1)), ((), (), ((1, (0, 1), (1, 1)), (2, (1, 1), (2, 1)), (3, (2, 1), (3, 1)))))
        self.assertEqual(book.levels(), (((1, 1),), ((2, 1),)))

    def test_lost_already(self):
        book = book_of(Hall([10], [(5, 1)]), order(7, 1, 0, 1), order(8, due=200))
        told = stand(book)[:4]
        self.assertEqual(book.levels(), (((0, 1),),))
        self.assertEqual(book.lose((5, 1)), NOTHING)
        self.assertEqual((stand(book)[:4], book.levels()), (told, ()))

    def test_restore(self):
        book = book_of(Hall([10], [(0, 1), (5, 1)]), order(7), order(8, due=200))
        self.assertEqual(book.restore((5, 1)), NOTHING)
        self.assertEqual(book.restore(slot=(0, 1)), ((7,), (), ()))
        self.assertEqual((book.hall(), book.dealing()), (Hall([10]), [(7, (0, 1))]))

    def test_the_dealing_stays_until_a_deed(self):
        book = in_a_row()
        book.bring(order(4, 1, 0, 2))
        told = stand(book)
        book.kept(), book.levels(), book.orders(), book.slot_of(3), book.copy(), len(book)
        self.assertEqual(stand(book), told)


class Against(unittest.TestCase):
    def test_each_deed_against_a_search(self):
        changes = {}
        for book, deed, told in some_deeds(61):
            ahead = book.dealing()
            change = getattr(book, deed)(*told)
            answers_well(self, book, ahead, change)
            moves_fewest(self, book, ahead, change)
            called = (deed, len(change[0]), len(change[1]), min(1, len(change[2])))
            changes[called] = changes.get(called, 0) + 1
        for called in [("bring", 1, 0, 0), ("bring", 1, 0, 1), ("bring", 1, 1, 0), ("bring", 1, 1, 1),
                       ("bring", 0, 0, 0), ("drop", 0, 1, 0), ("drop", 1, 1, 0), ("hasten", 1, 1, 0),
                       ("lose", 0, 1, 0), ("lose", 0, 0, 1), ("lose", 0, 1, 1), ("restore", 1, 0, 0),
                       ("restore", 0, 0, 0)]:
            self.assertIn(called, changes)

    def test_of_many_orders(self):
        levels = {}
        for book, deed, told in some_deeds(62, 6, 80, 40):
            ahead = book.dealing()
            answers_well(self, book, ahead, getattr(book, deed)(*told))
            levels[len(book.levels())] = True
        self.assertGreater(max(levels), 1)

    def test_in_a_full_house(self):
        for hall, orders in [full_house(), tight_house()]:
            book = Nightbook(hall)
            for one in orders:
                ahead = book.dealing()
                answers_well(self, book, ahead, book.bring(one))
            self.assertEqual((book.orders(), numbers(book.orders())), (ranked(orders), numbers(ranked(orders))))
            for slot in [slot for _, slot in book.dealing()][:9]:
                book.restore(book.hall().lost()[0])
                ahead = book.dealing()
                answers_well(self, book, ahead, book.lose(slot))
            for one in orders[::4]:
                ahead = book.dealing()
                answers_well(self, book, ahead, book.hasten(one.numbered(), not one.of_job().in_haste()))
                ahead = book.dealing()
                answers_well(self, book, ahead, book.drop(one.numbered()))


class Told(unittest.TestCase):
    def test_kept_by_rank_and_dealing_by_number(self):
        book = book_of(Hall([10, 10]), order(7, due=30), order(8, due=20), order(2, due=40))
        self.assertEqual((book.kept(), [number for number, _ in book.dealing()]), ([8, 7], [7, 8]))
        self.assertEqual((len(book), bool(book), numbers(book.orders())), (2, True, [8, 7, 2]))
        self.assertEqual(sorted(book.slot_of(number) for number in (7, 8)), [(0, 1), (0, 2)])

    def test_lists_told_are_the_askers_own(self):
        book = in_a_row()
        for ask in (book.orders, book.kept, book.dealing):
            told, again = ask(), ask()
            self.assertIs(type(told), list)
            told.clear()
            self.assertEqual((len(again), ask()), (3, again))

    def test_all_of_a_change_and_of_levels_are_tuples(self):
        book = in_a_row()
        change = book.bring(order(4, 1, 0, 2))
        self.assertEqual([type(part) for part in change + change[2] + change[2][0][1:]], [tuple] * 6)
        self.assertEqual([type(part) for part in (book.levels(),) + book.levels() + book.levels()[0]], [tuple] * 5)

    def test_a_copy_goes_on_by_itself(self):
        book = in_a_row()
        book.bring(order(4, 1, 0, 2))
        told, other = stand(book), book.copy()
        self.assertEqual((stand(other), other, type(other)), (told, book, Nightbook))
        self.assertEqual(other.lose((0, 1))[1], (4,))
        other.drop(2)
        self.assertEqual((stand(book), other == book), (told, False))
        once_more = stand(other)
        book.lose((1, 1))
        book.restore((1, 1))
        book.hasten(1)
        self.assertEqual(stand(other), once_more)

    def test_alike_whatever_came_ahead(self):
        hall = Hall([10])
        one = book_of(hall, order(1, 1, 0, 1), order(2))
        other = book_of(hall, order(2), order(1, 1, 0, 1))
        alike(self, one, other, True)
        other.lose((7, 1))
        alike(self, one, other, False)
        other.restore((7, 1))
        other.bring(order(3))
        alike(self, one, other, False)
        other.drop(3)
        other.hasten(2)
        alike(self, one, other, False)
        other.hasten(2, False)
        alike(self, one, other, True)
        alike(self, Nightbook(Hall([10])), Nightbook(Hall([11])), False)
        # Alike by HALL and ORDERS, whatever they are dealt.
        one, other = book_of(Hall([9, 9]), order(1), order(2)), book_of(Hall([9, 9]), order(2), order(1))
        self.assertNotEqual(one.dealing(), other.dealing())
        alike(self, one, other, True)

    def test_with_what_is_no_nightbook(self):
        unlike_anything(self, in_a_row(), Hall([10]), in_a_row().orders(), None)

    def test_slots_fit(self):
        book = in_a_row()
        for one in book.orders():
            self.assertIn(book.slot_of(one.numbered()), fits(book.hall(), one))
            self.assertEqual(book.slot_of(number=one.numbered()), dict(book.dealing())[one.numbered()])


if __name__ == "__main__":
    unittest.main()
