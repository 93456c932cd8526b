"""Which orders are kept, which are put off, and by which bars, against a search of every dealing."""

import random
import unittest

from anything import anything
from asking import bad, none_such
from bindbench.dealings import bars, kept, put_off
from bindbench.halls import Hall
from hallwork import (
    fits, full_house, most_dealt, numbers, order, orders_of, ranked, searched_bars, searched_kept, some_halls,
    tight_house,
)


def three_for_two():
    """Two frames of one night: the orders rank 2, 9, 4, and the last of them is put off."""
    return Hall([10, 20]), [order(9, 5, due=20), order(4, 5, due=30), order(2, 15, due=10)]


class Kept(unittest.TestCase):
    def test_by_rank(self):
        hall, orders = three_for_two()
        self.assertEqual((kept(hall, orders), put_off(hall, orders)), ([2, 9], [4]))
        self.assertEqual((kept(orders=orders, hall=hall), put_off(orders=orders, hall=hall)), ([2, 9], [4]))
        self.assertEqual(kept(hall, [orders[0], orders[1].hastened(), orders[2]]), [4, 2])

    def test_others_make_room(self):
        hall = Hall([10, 20])
        # The small one may have either frame: the great one, of a greater rank, needs one of them.
        self.assertEqual(kept(hall, [order(1, 5, due=1), order(2, 20, due=2)]), [1, 2])
        self.assertEqual(kept(hall, [order(1, 5, 0, 1, due=1), order(2, 20, due=2), order(3, 20, due=3),
                                     order(4, 5, due=4)]), [1, 2, 4])

    def test_none_and_one(self):
        hall = Hall([10], [(3, 1)])
        self.assertEqual((kept(hall, []), put_off(hall, ()), kept(hall, ())), ([], [], []))
        self.assertEqual((kept(hall, [order(7)]), put_off(hall, [order(7)])), ([7], []))
        for one in [order(7, 11), order(7, 1, 3)]:
            self.assertEqual((kept(hall, [one]), put_off(hall, [one]), bars(hall, [one], 7)), ([], [7], ([], [])))

    def test_forty(self):
        orders = orders_of(40)
        self.assertEqual((kept(Hall([1]), orders), put_off(Hall([1]), orders)), (numbers(ranked(orders)), []))
        same = [order(number) for number in range(1, 41)]
        self.assertEqual((kept(Hall([1]), same), put_off(Hall([1]), same)), ([1], list(range(2, 41))))

    def test_against_a_search(self):
        put_off_at_all = 0
        for hall, orders in some_halls(51, 150):
            wanted = numbers(searched_kept(hall, orders))
            others = [number for number in numbers(ranked(orders)) if number not in wanted]
            self.assertEqual((kept(hall, orders), put_off(hall, orders)), (wanted, others))
            self.assertEqual(len(wanted), most_dealt([(one, fits(hall, one)) for one in orders]))
            put_off_at_all += len(others)
        self.assertGreater(put_off_at_all, 100)

    def test_in_whatever_order_they_are_told(self):
        dice = random.Random(52)
        for hall, orders in list(some_halls(53, 40)) + [tight_house()]:
            told = (kept(hall, orders), put_off(hall, orders))
            off = [bars(hall, orders, number) for number in told[1]]
            for _ in range(3):
                dice.shuffle(orders)
                self.assertEqual((kept(hall, tuple(orders)), put_off(hall, orders)), told)
                self.assertEqual([bars(hall, orders, number) for number in told[1]], off)

    def test_of_orders_with_more_slots_than_forty(self):
        # Those of few slots come last, and all others make room for them.
        hall = Hall([60] * 9)
        wide = [order(number, 1, 0, 30, due=number) for number in range(1, 32)]
        narrow = [order(number, 1, 0, due=number) for number in range(50, 59)]
        self.assertEqual(kept(hall, wide + narrow), list(range(1, 32)) + list(range(50, 59)))
        self.assertEqual(put_off(hall, wide[1:] + narrow + [order(60, 1, 0, due=200)]), [60])
        self.assertEqual(bars(hall, wide[1:] + narrow + [order(60, 1, 0, due=200)], 60),
                         (list(range(50, 59)), [(0, frame) for frame in range(1, 10)]))

    def test_what_is_told_is_the_askers_own(self):
        hall, orders = three_for_two()
        for ask in (lambda: kept(hall, orders), lambda: put_off(hall, orders), lambda: bars(hall, orders, 4)[0],
                    lambda: bars(hall, orders, 4)[1]):
            told, again = ask(), ask()
            self.assertIs(type(told), list)
            told.clear()
            self.assertEqual((len(again) > 0, ask()), (True, again))

    def test_what_was_handed_in_stays(self):
        hall, orders = three_for_two()
        kept(hall, orders), put_off(hall, orders), bars(hall, orders, 4)
        self.assertEqual((hall, numbers(orders)), (Hall([10, 20]), [9, 4, 2]))


class Bars(unittest.TestCase):
    def test_told(self):
        hall, orders = three_for_two()
        self.assertEqual(bars(hall, orders, 4), ([2, 9], [(0, 1), (0, 2)]))
        self.assertEqual(bars(number=4, orders=tuple(orders), hall=hall), ([2, 9], [(0, 1), (0, 2)]))
        self.assertIs(type(bars(hall, orders, 4)), tuple)

    def test_only_of_those_ahead(self):
        # 3 has the only slot of its night; 2, put off by it, would have it if it were not for 3; 1 comes behind both.
        hall = Hall([10])
        orders = [order(3, 1, 0, 1, due=1), order(4, 1, 1, due=2), order(2, 1, 0, due=3), order(1, 1, 1, 2, due=4)]
        self.assertEqual((kept(hall, orders), put_off(hall, orders)), ([3, 4, 1], [2]))
        self.assertEqual(bars(hall, orders, 2), ([3, 4], [(0, 1), (1, 1)]))

    def test_against_a_search(self):
        told = {}
        for hall, orders in some_halls(54, 400):
            for number in put_off(hall, orders):
                one = [other for other in orders if other.numbered() == number][0]
                found = bars(hall, orders, number)
                self.assertEqual(found, searched_bars(hall, orders, one))
                self.assertEqual(len(found[0]), len(found[1]))
                told[len(found[0])] = told.get(len(found[0]), 0) + 1
        self.assertGreater(min(told.get(many, 0) for many in (0, 1, 2, 3)), 3)

    def test_full_slots_of_a_great_hall(self):
        hall, orders = tight_house(3)
        by_number = {one.numbered(): one for one in orders}
        self.assertGreater(len(put_off(hall, orders)), 15)
        for number in put_off(hall, orders):
            found, full = bars(hall, orders, number)
            slots = {slot for other in found + [number] for slot in fits(hall, by_number[other])}
            self.assertEqual((full, len(full)), (sorted(slots), len(found)))
            self.assertTrue(all(by_number[other].rank() < by_number[number].rank() for other in found))

    def test_of_no_order_that_is_put_off(self):
        hall, orders = three_for_two()
        for number in (2, 9, 5, 0, -4, 100000, "4", (4,), [4]):
            none_such(self, "order", number, bars, hall, orders, number)
        for called, thing in anything():
            with self.subTest(called):
                none_such(self, "order", thing, bars, hall, orders, thing)
        one = [order(1, 11)]
        self.assertEqual(bars(Hall([10]), one, 1), ([], []))
        none_such(self, "order", True, bars, Hall([10]), one, True)


class Refused(unittest.TestCase):
    def test_halls_and_orders_of_anything(self):
        hall, one = Hall([10]), order(7)
        for called, thing in anything():
            with self.subTest(called):
                for ask in (kept, put_off):
                    bad(self, "hall", ask, thing, [])
                    bad(self, "hall", ask, thing, thing)
                    bad(self, "orders", ask, hall, [thing])
                    bad(self, "orders", ask, hall, [one, thing])
                bad(self, "hall", bars, thing, thing, thing)
                bad(self, "orders", bars, hall, [thing], thing)
        for called, thing in anything(but=["an empty list", "an empty tuple"]):
            with self.subTest(called):
                for ask in (kept, put_off):
                    bad(self, "orders", ask, hall, thing)
                bad(self, "orders", bars, hall, thing, 7)

    def test_forty_one(self):
        for ask in (kept, put_off):
            bad(self, "orders", ask, Hall([10]), orders_of(41))
            bad(self, "orders", ask, hall=Hall([10]), orders=tuple(orders_of(41)))
        bad(self, "orders", bars, Hall([10]), orders_of(41), 1)

    def test_two_of_one_number(self):
        for two in [[order(7), order(7)], [order(7), order(8), order(7, 5, 3, due=9)]]:
            for ask in (kept, put_off):
                bad(self, "orders", ask, Hall([10]), two)
            bad(self, "orders", bars, Hall([10]), two, 7)

    def test_jobs_are_no_orders(self):
        for told in [[order(7).of_job()], {7: order(7)}, order(7), [None]]:
            bad(self, "orders", kept, Hall([10]), told)
        bad(self, "hall", kept, [10], [])


class Much(unittest.TestCase):
    def test_answered_at_once(self):
        for hall, orders in [full_house(), tight_house()]:
            self.assertEqual(sorted(kept(hall, orders) + put_off(hall, orders)), sorted(numbers(orders)))
        hall, orders = full_house()
        self.assertEqual(len(kept(hall, orders)), most_kept(hall, orders))


def most_kept(hall, orders):
    """As many as there is a dealing of: one behind the other takes a slot, or others move for it."""
    holders = {}

    def moved(one, seen):
        for slot in fits(hall, one):
            if slot not in seen:
                seen.add(slot)
                if slot not in holders or moved(holders[slot], seen):
                    holders[slot] = one
                    return True
        return False

    return sum(moved(one, set()) for one in orders)


if __name__ == "__main__":
    unittest.main()
