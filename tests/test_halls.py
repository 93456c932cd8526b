"""Halls: their frames, the slots that are lost, and the slots for an order."""

import unittest

from anything import anything
from asking import alike, bad, none_such, too_many, unlike_anything
from benchwork import calf
from bindbench.halls import Hall, Order
from bindbench.styles import Job
from hallwork import fits, full_house, lost_slots, order, some_halls

LAST_NIGHT = 99999


class Made(unittest.TestCase):
    def test_frames_at_each_bound(self):
        for sizes in [[1], [60], [1, 60], [12] * 9, (12, 12, 30), tuple(range(52, 61))]:
            hall = Hall(sizes)
            self.assertEqual((hall.sizes(), hall.lost(), len(hall)), (list(sizes), [], len(sizes)))

    def test_frames_beyond(self):
        for sizes in [[], (), [12] * 10, [0], [61], [12, 0], [12, 61], [-1], [12, True], [12, None], [12, "12"],
                      [[12]]]:
            bad(self, "sizes", Hall, sizes)
            bad(self, "sizes", Hall, sizes=sizes)

    def test_lost_at_each_bound(self):
        for lost in [[], (), [(0, 1)], [(LAST_NIGHT, 3)], ((7, 1), (7, 2)), lost_slots(99), lost_slots(100)]:
            hall = Hall([12, 12, 30], lost)
            self.assertEqual(hall.lost(), list(lost))
            self.assertEqual(hall, Hall(lost=lost, sizes=[12, 12, 30]))
        self.assertEqual(Hall([12], None).lost(), [])
        self.assertEqual(Hall([12] * 9, [(5, 9)]).lost(), [(5, 9)])

    def test_lost_beyond(self):
        for lost in [lost_slots(101), [(0, 1), (0, 1)], [(0, 0)], [(0, 4)], [(-1, 1)], [(LAST_NIGHT + 1, 1)], [(0,)],
                     [(0, 1, 1)], [[0, 1]], ["01"], [None], [(True, 1)], [(0, True)], [("0", 1)], [(0, 1), None],
                     {(0, 1): 1}, {(0, 1)}, "", iter([(0, 1)])]:
            bad(self, "lost", Hall, [12, 12, 30], lost)
            bad(self, "lost", Hall, lost=lost, sizes=[12, 12, 30])

    def test_of_anything(self):
        for called, thing in anything():
            with self.subTest(called):
                bad(self, "sizes", Hall, thing)
                bad(self, "sizes", Hall, thing, thing)
        for called, thing in anything(but=["one", "two"]):
            with self.subTest(called):
                bad(self, "sizes", Hall, [thing])
                bad(self, "sizes", Hall, [12, thing])
                bad(self, "lost", Hall, [12], [(0, thing)])
        for called, thing in anything(but=["None", "an empty list", "an empty tuple"]):
            with self.subTest(called):
                bad(self, "lost", Hall, [12], thing)
        for called, thing in anything():
            with self.subTest(called):
                bad(self, "lost", Hall, [12], [thing])

    def test_what_is_refused_first(self):
        bad(self, "sizes", Hall, [], [None])
        bad(self, "sizes", Hall, lost=[(0, 2)], sizes=[61])

    def test_what_was_handed_in_stays_and_a_change_of_it_changes_nothing(self):
        sizes, lost = [12, 30], [(9, 2), (3, 1), (3, 2)]
        hall = Hall(sizes, lost)
        self.assertEqual((sizes, lost), ([12, 30], [(9, 2), (3, 1), (3, 2)]))
        sizes.append(60)
        lost.clear()
        self.assertEqual((hall.sizes(), hall.lost(), len(hall)), ([12, 30], [(3, 1), (3, 2), (9, 2)], 2))

    def test_lists_told_are_the_askers_own(self):
        hall = Hall([12, 30], [(9, 2), (3, 1)])
        for ask in (hall.sizes, hall.lost):
            told, again = ask(), ask()
            self.assertIs(type(told), list)
            told.clear()
            self.assertEqual((again, ask()), (again, again))
            self.assertEqual(len(again), 2)
        self.assertEqual(str(hall), "hall 12 30 lost 3 1 lost 9 2")


class Slots(unittest.TestCase):
    def test_is_slot(self):
        hall = Hall([12, 12, 30], [(100, 2)])
        for slot in [(0, 1), (100, 1), (100, 3), (101, 2), (LAST_NIGHT, 3)]:
            self.assertIs(hall.is_slot(slot), True)
            self.assertIs(hall.is_slot(thing=slot), True)
        for thing in [(100, 2), (-1, 1), (LAST_NIGHT + 1, 1), (0, 0), (0, 4), [0, 1], (0,), (0, 1, 1), (False, 1),
                      (0, True), ("0", 1), None, "0 1"]:
            self.assertIs(hall.is_slot(thing), False)

    def test_is_slot_of_anything(self):
        hall = Hall([12])
        for called, thing in anything():
            with self.subTest(called):
                self.assertIs(hall.is_slot(thing), False)
        for called, thing in anything(but=["one"]):
            with self.subTest(called):
                self.assertIs(hall.is_slot((0, thing)), False)
                self.assertIs(hall.is_slot((thing, 9)), False)
                self.assertIs(hall.is_slot((thing, thing)), False)

    def test_with_lost(self):
        hall = Hall([12, 30], [(3, 1)])
        other = hall.with_lost((1, 2))
        self.assertEqual((other.lost(), hall.lost()), ([(1, 2), (3, 1)], [(3, 1)]))
        self.assertEqual((other, hall), (Hall([12, 30], [(3, 1), (1, 2)]), Hall([12, 30], [(3, 1)])))
        self.assertEqual((other.is_slot((1, 2)), hall.is_slot((1, 2))), (False, True))
        self.assertEqual(hall.with_lost(slot=(1, 2)), other)

    def test_with_found(self):
        hall = Hall([12, 30], [(3, 1), (1, 2)])
        other = hall.with_found((3, 1))
        self.assertEqual((other.lost(), hall.lost()), ([(1, 2)], [(1, 2), (3, 1)]))
        self.assertEqual((hall.with_found(slot=(3, 1)), other.with_found((1, 2))), (other, Hall([12, 30])))

    def test_what_is_lost_is_none_or_is_no_slot(self):
        hall = Hall([12, 30], [(3, 1)])
        for slot in [(3, 1), (3, 0), (3, 3), (-1, 1), (LAST_NIGHT + 1, 1), [3, 2], (3,), (3, True)]:
            none_such(self, "slot", slot, hall.with_lost, slot)
        for slot in [(3, 2), (4, 1), (3, 0), (3, 3), (-1, 1), [3, 1], (3, 1, 1), (3, True), (3,)]:
            none_such(self, "slot", slot, hall.with_found, slot)
        for called, thing in anything():
            with self.subTest(called):
                for slot in [thing, (thing, thing, thing), (thing, 3)]:
                    none_such(self, "slot", slot, hall.with_lost, slot)
                    none_such(self, "slot", slot, hall.with_found, slot)
        for called, thing in anything(but=["one", "two"]):
            with self.subTest(called):
                for slot in [(3, thing), (thing, thing)]:
                    none_such(self, "slot", slot, hall.with_lost, slot)
                    none_such(self, "slot", slot, hall.with_found, slot)
        self.assertEqual(hall, Hall([12, 30], [(3, 1)]))

    def test_too_many_lost(self):
        hall = Hall([12, 30], lost_slots(99)).with_lost((0, 2))
        self.assertEqual(len(hall.lost()), 100)
        too_many(self, 100, hall.with_lost, (1, 2))
        none_such(self, "slot", (0, 2), hall.with_lost, (0, 2))
        none_such(self, "slot", (0, 3), hall.with_lost, (0, 3))
        self.assertEqual(len(hall.lost()), 100)
        self.assertEqual(len(hall.with_found((5, 1)).with_lost((1, 2)).lost()), 100)


class Fitting(unittest.TestCase):
    def test_of_its_size_or_a_greater_one(self):
        hall = Hall([12, 30, 11])
        self.assertEqual(hall.slots_of(order(7, 12, 5)), [(5, 1), (5, 2)])
        self.assertEqual(hall.slots_of(order(7, 11, 5)), [(5, 1), (5, 2), (5, 3)])
        self.assertEqual(hall.slots_of(order(7, 13, 5)), [(5, 2)])
        self.assertEqual(hall.slots_of(order(7, 30, 5)), [(5, 2)])
        self.assertEqual(hall.slots_of(order(7, 31, 5)), [])

    def test_from_the_first_night_to_the_last_but_what_is_lost(self):
        hall = Hall([12, 30], [(6, 2), (8, 1), (9, 1)])
        self.assertEqual(hall.slots_of(order(7, 1, 5, 7)), [(5, 1), (5, 2), (6, 1), (7, 1), (7, 2)])
        self.assertEqual(hall.slots_of(order(7, 1, 8)), [(8, 2)])
        self.assertEqual((hall.slots_of(order(7, 30, 6)), hall.how_many(order(7, 30, 6))), ([], 0))

    def test_against_a_look_at_each_night_and_frame(self):
        houses = list(some_halls(50, 60)) + [full_house(2)]
        for hall, orders in houses:
            for one in orders:
                found = fits(hall, one)
                self.assertEqual(hall.how_many(one), len(found))
                for most in {0, 1, max(0, len(found) - 1), len(found), len(found) + 1, 40, 1000}:
                    self.assertEqual(hall.slots_of(one, most), found[:most])
                self.assertEqual(hall.slots_of(one), found[:40])

    def test_forty_if_not_told_how_many(self):
        hall, one = Hall([12] * 9), order(7, 1, 0, 30)
        self.assertEqual((len(hall.slots_of(one)), len(hall.slots_of(one, 1000)), hall.how_many(one)), (40, 279, 279))
        self.assertEqual(hall.slots_of(most=10, order=one), hall.slots_of(one)[:10])
        self.assertEqual(hall.how_many(order=one), 279)

    def test_of_anything(self):
        hall, one = Hall([12]), order(7)
        for called, thing in anything():
            with self.subTest(called):
                bad(self, "order", hall.slots_of, thing)
                bad(self, "order", hall.slots_of, thing, thing)
                bad(self, "order", hall.how_many, thing)
        for called, thing in anything(but=["zero", "one", "two"]):
            with self.subTest(called):
                bad(self, "most", hall.slots_of, one, thing)
        for thing in [hall, Job(7, calf()), Order, str(one), 7, [one]]:
            bad(self, "order", hall.slots_of, thing)
            bad(self, "order", hall.how_many, thing)
        for most in (-1, 1001):
            bad(self, "most", hall.slots_of, one, most)

    def test_the_list_told_is_the_askers_own(self):
        hall, one = Hall([12, 30]), order(7)
        told = hall.slots_of(one)
        told.clear()
        self.assertEqual(hall.slots_of(one), [(0, 1), (0, 2)])


class Told(unittest.TestCase):
    def test_text(self):
        self.assertEqual(str(Hall([12, 12, 30])), "hall 12 12 30")
        self.assertEqual(str(Hall([60], [(100, 1)])), "hall 60 lost 100 1")
        self.assertEqual(str(Hall((12, 30), [(101, 1), (100, 2), (9, 2)])), "hall 12 30 lost 9 2 lost 100 2 lost 101 1")

    def test_len(self):
        for many in range(1, 10):
            hall = Hall([12] * many, [(1, 1)])
            self.assertEqual((len(hall), bool(hall)), (many, True))

    def test_alike(self):
        alike(self, Hall([12, 30]), Hall((12, 30), []), True)
        alike(self, Hall([12, 30], [(1, 2), (0, 1)]), Hall([12, 30], ((0, 1), (1, 2))), True)
        alike(self, Hall([12, 30]).with_lost((0, 1)).with_found((0, 1)), Hall([12, 30]), True)

    def test_unlike(self):
        for other in [Hall([30, 12], [(0, 1)]), Hall([12], [(0, 1)]), Hall([12, 30]), Hall([12, 30], [(0, 2)]),
                      Hall([12, 30], [(1, 1)]), Hall([12, 30], [(0, 1), (1, 1)]), Hall([12, 31], [(0, 1)])]:
            alike(self, Hall([12, 30], [(0, 1)]), other, False)

    def test_with_what_is_no_hall(self):
        unlike_anything(self, Hall([12, 30]), [12, 30], order(7))


if __name__ == "__main__":
    unittest.main()
