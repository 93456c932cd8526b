"""Orders: what they want, and how they are told."""

import unittest

from anything import anything
from asking import alike, bad, unlike_anything
from benchwork import calf, sewn
from bindbench.halls import Hall, Order
from bindbench.styles import Job
from hallwork import order

LAST_NIGHT = 99999


def seven():
    return Job(7, calf(), 10, 200)


class Made(unittest.TestCase):
    def test_all_handed_in(self):
        one = Order(seven(), 12, 100, 104)
        self.assertEqual((one.of_job(), one.numbered(), one.wants(), one.rank()),
                         (seven(), 7, (12, 100, 104), (1, 200, 10, 7)))
        self.assertEqual([type(one.of_job()), type(one.wants()), type(one.rank())], [Job, tuple, tuple])

    def test_left_out(self):
        self.assertEqual(Order(seven()).wants(), (1, 0, 0))
        self.assertEqual(Order(seven(), 12).wants(), (12, 0, 0))
        self.assertEqual(Order(seven(), 12, 100).wants(), (12, 100, 100))
        self.assertEqual(Order(seven(), 12, 100, None).wants(), (12, 100, 100))
        self.assertEqual(Order(seven(), first=100).wants(), (1, 100, 100))
        self.assertEqual(Order(seven(), last=3).wants(), (1, 0, 3))

    def test_by_names_in_another_order(self):
        self.assertEqual(Order(last=104, first=100, size=12, job=seven()), Order(seven(), 12, 100, 104))

    def test_at_each_bound_and_beyond(self):
        for size in (1, 2, 60):
            self.assertEqual(Order(seven(), size).wants()[0], size)
        for first, last in [(0, 0), (0, 30), (100, 130), (LAST_NIGHT, LAST_NIGHT), (LAST_NIGHT - 30, LAST_NIGHT)]:
            self.assertEqual(Order(seven(), 1, first, last).wants(), (1, first, last))
        for size in (-1, 0, 61):
            bad(self, "size", Order, seven(), size)
        for first in (-1, LAST_NIGHT + 1):
            bad(self, "first", Order, seven(), 1, first)
            bad(self, "first", Order, seven(), 1, first, first)
        for first, last in [(0, -1), (0, 31), (100, 99), (100, 131), (LAST_NIGHT, LAST_NIGHT + 1),
                            (LAST_NIGHT - 29, LAST_NIGHT + 1), (1, 0)]:
            bad(self, "last", Order, seven(), 1, first, last)

    def test_of_anything(self):
        for called, thing in anything():
            with self.subTest(called):
                bad(self, "job", Order, thing)
                bad(self, "job", Order, thing, thing, thing, thing)
        for called, thing in anything(but=["one", "two"]):
            with self.subTest(called):
                bad(self, "size", Order, seven(), thing)
        for called, thing in anything(but=["zero", "one", "two"]):
            with self.subTest(called):
                bad(self, "first", Order, seven(), 1, thing)
        for called, thing in anything(but=["None", "zero", "one", "two"]):
            with self.subTest(called):
                bad(self, "last", Order, seven(), 1, 0, thing)
        for thing in [calf(), 7, str(seven()), order(7), Job, [seven()]]:
            bad(self, "job", Order, thing)

    def test_what_is_refused_first(self):
        bad(self, "job", Order, last=-1, first=-1, size=0, job=None)
        bad(self, "size", Order, last=-1, first=-1, size=0, job=seven())
        bad(self, "first", Order, last=-1, first=-1, size=1, job=seven())

    def test_hastened(self):
        job = seven()
        one = Order(job, 12, 100, 104)
        other = one.hastened()
        self.assertEqual((other.of_job(), other.wants(), other.rank()),
                         (job.hastened(), (12, 100, 104), (0, 200, 10, 7)))
        self.assertEqual((one, one.rank(), job, job.in_haste()),
                         (Order(seven(), 12, 100, 104), (1, 200, 10, 7), seven(), False))
        self.assertEqual((other.hastened(), other.hastened(False), one.hastened(haste=False)), (other, one, one))
        for called, thing in anything(but=["True", "False"]):
            with self.subTest(called):
                bad(self, "haste", one.hastened, thing)


class Told(unittest.TestCase):
    def test_texts(self):
        self.assertEqual(str(Order(seven(), 12, 100, 104)), "order 7 12 100 104")
        self.assertEqual(str(Order(seven().hastened())), "order 7 1 0 0")
        self.assertEqual(repr(Order(seven(), 12, 100, 104)), "Order(7, 12)")
        self.assertEqual(repr([Order(seven())]), "[Order(7, 1)]")

    def test_len(self):
        for first, last, nights in [(0, 0, 1), (5, 6, 2), (100, 130, 31), (LAST_NIGHT - 30, LAST_NIGHT, 31)]:
            one = Order(seven(), 1, first, last)
            self.assertEqual((len(one), bool(one)), (nights, True))

    def test_alike(self):
        alike(self, Order(seven(), 12, 100, 104), Order(Job(7, calf(), 10, 200), 12, 100, 104), True)
        alike(self, Order(seven(), 12, 100), Order(seven(), 12, 100, 100), True)

    def test_unlike(self):
        for other in [Order(seven(), 11, 100, 104), Order(seven(), 12, 99, 104), Order(seven(), 12, 100, 103),
                      Order(seven().hastened(), 12, 100, 104), Order(Job(8, calf(), 10, 200), 12, 100, 104),
                      Order(Job(7, calf(), 10, 201), 12, 100, 104), Order(Job(7, calf(), 9, 200), 12, 100, 104),
                      Order(sewn(7, 6, 10, 200), 12, 100, 104)]:
            alike(self, Order(seven(), 12, 100, 104), other, False)

    def test_with_what_is_no_order(self):
        unlike_anything(self, Order(seven(), 12), seven(), 7, (12, 0, 0), Hall([12]))


if __name__ == "__main__":
    unittest.main()
