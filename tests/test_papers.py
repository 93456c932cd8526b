"""Papers of the kept orders and of the most, against what the points ask of one."""

import random
import unittest

from anything import anything
from asking import bad
from bindbench.dealings import bars, kept, put_off
from bindbench.halls import Hall
from bindbench.papers import kept_paper, most_paper
from hallwork import (
    fits, full_house, most_dealt, numbers, order, orders_of, some_halls, tight_house,
)
from paperwork import is_kept_paper, is_most_paper

LAST_NIGHT = 99999


def some_nights(dice):
    first = dice.randint(0, 4)
    return first, first + dice.choice([0, 0, 1, 2, 50])


class KeptPaper(unittest.TestCase):
    def test_told(self):
        hall = Hall([10, 20])
        orders = [order(9, 5, due=20), order(4, 5, due=30), order(2, 15, due=10), order(1, 25)]
        self.assertEqual(kept_paper(hall, orders),
                         (((2, (0, 2)), (9, (0, 1))), ((1, (), ()), (4, (2, 9), ((0, 1), (0, 2))))))
        self.assertEqual(kept_paper(orders=orders, hall=hall), kept_paper(hall, tuple(orders)))

    def test_none(self):
        self.assertEqual((kept_paper(Hall([10]), []), kept_paper(Hall([10]), ())), (((), ()), ((), ())))

    def test_all_that_is_asked_of_one(self):
        for hall, orders in list(some_halls(55, 120)) + [tight_house(), full_house()]:
            paper = kept_paper(hall, orders)
            self.assertTrue(is_kept_paper(hall, orders, paper))
            dealing, off = paper
            self.assertEqual([number for number, _ in dealing], sorted(kept(hall, orders)))
            self.assertEqual([number for number, _, _ in off], sorted(put_off(hall, orders)))
            for number, barring, full in off:
                self.assertEqual((list(barring), list(full)), bars(hall, orders, number))

    def test_the_same_when_asked_again(self):
        for hall, orders in list(some_halls(57, 30)) + [tight_house(), full_house()]:
            paper = kept_paper(hall, orders)
            self.assertEqual(kept_paper(hall, tuple(orders)), paper)
            alike = [order(one.numbered(), *one.wants(), one.rank()[1], one.rank()[0] == 0) for one in orders]
            self.assertEqual(kept_paper(Hall(hall.sizes(), hall.lost()), alike), paper)

    def test_refused(self):
        refuses(self, kept_paper)

    def test_what_was_handed_in_stays(self):
        hall, orders = Hall([10]), [order(9), order(7)]
        kept_paper(hall, orders), most_paper(hall, orders, 0, 9)
        self.assertEqual((hall, numbers(orders)), (Hall([10]), [9, 7]))


class MostPaper(unittest.TestCase):
    def test_told(self):
        hall = Hall([10])
        orders = [order(9, 5, 0, 1, due=20), order(4, 5, 1, 2, due=30), order(2, 5, 1, due=10), order(1, 25, 1)]
        self.assertEqual(most_paper(hall, orders, 0, 9), (((2, (1, 1)), (4, (2, 1)), (9, (0, 1))), (2, 4, 9), ()))
        self.assertEqual(most_paper(hall, orders, 1, 1), (((2, (1, 1)),), (), ((1, 1),)))
        self.assertEqual(most_paper(last=1, first=1, orders=orders, hall=hall), most_paper(hall, tuple(orders), 1, 1))

    def test_none(self):
        for hall, orders, first, last in [(Hall([10]), [], 0, LAST_NIGHT), (Hall([10]), [order(7)], 1, 2),
                                          (Hall([10]), [order(7, 11)], 0, 2), (Hall([10], [(0, 1)]), [order(7)], 0, 0),
                                          (Hall([10]), [order(7, 1, 5, 9)], 0, 4), (Hall([10]), [order(7)], 1, 1)]:
            self.assertEqual(most_paper(hall, orders, first, last), ((), (), ()))

    def test_nights_at_each_bound(self):
        one = order(7, 1, LAST_NIGHT)
        self.assertEqual(most_paper(Hall([10]), [one], LAST_NIGHT, LAST_NIGHT)[0], ((7, (LAST_NIGHT, 1)),))
        self.assertEqual(most_paper(Hall([10]), [one], 0, LAST_NIGHT)[0], ((7, (LAST_NIGHT, 1)),))
        self.assertEqual(most_paper(Hall([10]), [order(7)], 0, 0)[0], ((7, (0, 1)),))
        self.assertEqual(most_paper(Hall([10]), [order(7, 1, 0, 30)], 30, 31)[0], ((7, (30, 1)),))

    def test_all_that_is_asked_of_one_and_as_many_as_a_search_finds(self):
        dice = random.Random(58)
        for hall, orders in some_halls(59, 150):
            first, last = some_nights(dice)
            paper = most_paper(hall, orders, first, last)
            self.assertTrue(is_most_paper(hall, orders, first, last, paper))
            within = [(one, [slot for slot in fits(hall, one) if first <= slot[0] <= last]) for one in orders]
            self.assertEqual(len(paper[0]), most_dealt(within))
            self.assertEqual(most_paper(hall, orders, first, last), paper)

    def test_of_all_nights_as_many_as_are_kept(self):
        for hall, orders in some_halls(60, 40):
            self.assertEqual(len(most_paper(hall, orders, 0, LAST_NIGHT)[0]), len(kept(hall, orders)))

    def test_of_a_great_hall(self):
        for hall, orders in [tight_house(4), full_house(4)]:
            for first, last in [(0, LAST_NIGHT), (0, 0), (3, 8), (12, 12), (30, 34)]:
                self.assertTrue(is_most_paper(hall, orders, first, last, most_paper(hall, orders, first, last)))

    def test_refused(self):
        refuses(self, most_paper, 0, 9)
        hall, orders = Hall([10]), [order(7)]
        for called, thing in anything(but=["zero", "one", "two"]):
            with self.subTest(called):
                bad(self, "first", most_paper, hall, orders, thing, 9)
                bad(self, "first", most_paper, hall, orders, thing, thing)
                bad(self, "last", most_paper, hall, orders, 0, thing)
        for first in (-1, LAST_NIGHT + 1):
            bad(self, "first", most_paper, hall, orders, first, 9)
        for first, last in [(0, -1), (0, LAST_NIGHT + 1), (5, 4), (LAST_NIGHT, 0), (LAST_NIGHT, LAST_NIGHT + 1)]:
            bad(self, "last", most_paper, hall, orders, first, last)

    def test_what_is_refused_first(self):
        bad(self, "hall", most_paper, last=-1, first=-1, orders=None, hall=None)
        bad(self, "orders", most_paper, last=-1, first=-1, orders=None, hall=Hall([10]))
        bad(self, "first", most_paper, last=-1, first=-1, orders=[], hall=Hall([10]))


def refuses(test, ask, *nights):
    """That a question for a paper refuses halls and orders that are none."""
    hall, one = Hall([10]), order(7)
    for called, thing in anything():
        with test.subTest(called):
            bad(test, "hall", ask, thing, thing, *nights)
            bad(test, "orders", ask, hall, [one, thing], *nights)
    for called, thing in anything(but=["an empty list", "an empty tuple"]):
        with test.subTest(called):
            bad(test, "orders", ask, hall, thing, *nights)
    for orders in [orders_of(41), [one, order(7, 5)], [one.of_job()], one, {7: one}]:
        bad(test, "orders", ask, hall, orders, *nights)
    bad(test, "hall", ask, [10], [], *nights)


if __name__ == "__main__":
    unittest.main()
