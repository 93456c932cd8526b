"""What a house refuses of a deed, in which order, and that it stays as it was then."""

import unittest

from anything import Posing, anything
from asking import already, bad, none_such, too_many
from bindbench.benches import Bench
from bindbench.errors import Already, BadValue, TooMany
from bindbench.halls import Hall
from bindbench.houses import House
from hallwork import lost_slots
from housework import CALF, CLOTH, house_of, house_told, job_deed, refused_by, small_house
from stockwork import lot, spoil, wanted

LAST_HOUR, LAST_NIGHT, LAST_NUMBER = 10 ** 6, 99999, 99999

GOOD = [
    ("job", 1, "calf", 0, 0, False), ("job", LAST_NUMBER, "cloth", LAST_HOUR, LAST_HOUR, True),
    ("job", 5, "calf", 0, LAST_HOUR, True), ("haste", 7, True), ("haste", 7, False), ("gone", 7), ("lost", (0, 1)),
    ("lost", (LAST_NIGHT, 2)), ("page", lot(1, "oaka", 5)), ("order", 7, 1, 0, 0), ("order", 7, 60, 0, 30),
    ("order", 7, 60, LAST_NIGHT - 30, LAST_NIGHT), ("order", 7, 1, LAST_NIGHT, LAST_NIGHT),
]
BAD = [
    (), ("job",), ("jobs", 1, "calf", 0, 0, False), ("Job", 1, "calf", 0, 0, False), ("job", 0, "calf", 0, 0, False),
    ("job", LAST_NUMBER + 1, "calf", 0, 0, False), ("job", True, "calf", 0, 0, False), ("job", 1, "Calf", 0, 0, False),
    ("job", 1, "", 0, 0, False), ("job", 1, "press", 0, 0, False), ("job", 1, CALF, 0, 0, False),
    ("job", 1, "calf", -1, 0, False), ("job", 1, "calf", LAST_HOUR + 1, LAST_HOUR + 1, False),
    ("job", 1, "calf", 5, 4, False), ("job", 1, "calf", 5, LAST_HOUR + 1, False), ("job", 1, "calf", 5, None, False),
    ("job", 1, "calf", 0, 0, 0), ("job", 1, "calf", 0, 0, None), ("job", 1, "calf", 0, 0), ("job", 1, "calf", 0, False),
    ("job", 1, "calf", 0, 0, False, False), ["job", 1, "calf", 0, 0, False], "job 1 calf 0 0", ("order", 7, 1, 0),
    ("order", 7, 1, 0, 0, 0), ("order", 0, 1, 0, 0), ("order", LAST_NUMBER + 1, 1, 0, 0), ("order", 7, 0, 0, 0),
    ("order", 7, 61, 0, 0), ("order", 7, 1, -1, 0), ("order", 7, 1, 1, 0), ("order", 7, 1, 0, 31),
    ("order", 7, 1, LAST_NIGHT + 1, LAST_NIGHT + 1), ("order", 7, 1, LAST_NIGHT, LAST_NIGHT + 1),
    ("order", 7, 1, 0, None), ("order", 7, True, 0, 0), ("order", 7, 1, False, 0), ("haste", 7), ("haste", 7, 1),
    ("haste", 0, True), ("haste", LAST_NUMBER + 1, True), ("haste", "7", True), ("haste", 7, True, True),
    ("haste", 7, None),
    ("gone",), ("gone", 0), ("gone", LAST_NUMBER + 1), ("gone", "7"), ("gone", True), ("gone", 7, 7), ("calm", 7),
    ("lost",), ("lost", 0, 1), ("found",), ("found", 0, 1), ("page",), ("page", lot(1, "oaka", 5), 1),
    lot(1, "oaka", 5), ("back", 1), ("again", 1), ("back", ()), "back", ["back"], (("back",),), (None,), (b"back",),
    ("begin",), ("verdict", 7),
]


class Form(unittest.TestCase):
    def setUp(self):
        self.house = house_of(job_deed(7), job_deed(8), ("order", 8, 5, 0, 0), job_deed(9), ("back",))
        self.told = house_told(self.house)

    def stays(self):
        self.assertEqual((house_told(self.house), self.house.many()), (self.told, 3))

    def test_at_each_bound(self):
        for deed in GOOD:
            with self.subTest(deed):
                house = self.house.copy()
                self.assertIs(type(house.do(deed)), tuple)
        self.stays()

    def test_of_none(self):
        for deed in BAD:
            with self.subTest(deed):
                bad(self, "deed", self.house.do, deed)
        self.stays()

    def test_of_anything(self):
        for called, thing in anything():
            with self.subTest(called):
                bad(self, "deed", self.house.do, thing)
                bad(self, "deed", self.house.do, (thing,))
                bad(self, "deed", self.house.do, (thing, 7))
                for word in ("job", "order", "haste", "gone", "lost", "found", "page", "back", "again"):
                    bad(self, "deed", self.house.do, (word, thing, thing, thing))
        bad(self, "deed", self.house.do, Posing(tuple))
        self.stays()

    def test_anything_in_the_place_of_each_part(self):
        for called, thing in anything(but=["zero", "one", "two", "a name", "a kind", "a work", "True", "False"]):
            for deed in [("job", 1, "calf", 0, 5, False), ("order", 7, 1, 0, 5), ("haste", 7, True), ("gone", 7)]:
                for place in range(len(deed)):
                    with self.subTest(called + " in place " + str(place)):
                        bad(self, "deed", self.house.do, deed[:place] + (thing,) + deed[place + 1:])
        self.stays()

    def test_slots_and_pages_of_anything(self):
        for called, thing in anything():
            with self.subTest(called):
                none_such(self, "slot", thing, self.house.do, ("lost", thing))
                none_such(self, "slot", thing, self.house.do, ("found", thing))
                bad(self, "page", self.house.do, ("page", thing))
                slot = (thing, 3)
                none_such(self, "slot", slot, self.house.do, ("lost", slot))
                none_such(self, "slot", slot, self.house.do, ("found", slot))
                bad(self, "page", self.house.do, ("page", ("spoil", 1, "dukes", thing, 1)))
        self.stays()

    def test_a_refused_deed_lets_go_nothing(self):
        for deed in [BAD[3], ("job", 7, "calf", 0, 9, False), ("job", 4, "linen", 0, 9, False), ("gone", 4),
                     ("lost", (0, 3)), ("found", (0, 1)), ("page", None), ("order", 8, 1, 0, 0)]:
            self.assertIsNotNone(refused_by(self.house.do, deed)[1])
        self.stays()
        self.house.do(("again",))
        self.assertEqual(len(self.house), 3)


class Refusals(unittest.TestCase):
    def test_job(self):
        house = house_of(job_deed(7))
        for name in ("linen", "calfs", "job" * 2):
            none_such(self, "style", name, house.do, ("job", 8, name, 0, 9, False))
            none_such(self, "style", name, house.do, ("job", 7, name, 0, 9, False))
        already(self, "job", 7, house.do, ("job", 7, "calf", 0, 9, True))
        already(self, "job", 7, house.do, job_deed(7))

    def test_forty_jobs(self):
        house = house_of(*[job_deed(number) for number in range(1, 41)])
        told = house_told(house)
        too_many(self, 40, house.do, job_deed(41))
        already(self, "job", 40, house.do, job_deed(40))
        none_such(self, "style", "linen", house.do, job_deed(41, name="linen"))
        bad(self, "deed", house.do, job_deed(0))
        self.assertEqual((house_told(house), house.many()), (told, 40))
        house.do(("gone", 3))
        house.do(job_deed(41))
        self.assertEqual(len(house), 40)

    def test_order(self):
        house = house_of(job_deed(7), ("order", 7, 5, 0, 0))
        none_such(self, "job", 8, house.do, ("order", 8, 5, 0, 0))
        already(self, "order", 7, house.do, ("order", 7, 5, 0, 0))
        already(self, "order", 7, house.do, ("order", 7, 6, 1, 2))

    def test_haste_and_gone(self):
        house = house_of(job_deed(7))
        for number in (8, 1, LAST_NUMBER):
            none_such(self, "job", number, house.do, ("haste", number, False))
            none_such(self, "job", number, house.do, ("gone", number))

    def test_slots(self):
        house = small_house()
        for slot in [(0, 0), (0, 3), (-1, 1), (LAST_NIGHT + 1, 1), [0, 1], (0, True), (0,), (0, 1, 1), "0 1"]:
            none_such(self, "slot", slot, house.do, ("lost", slot))
            none_such(self, "slot", slot, house.do, ("found", slot))
        none_such(self, "slot", (0, 1), house.do, ("found", (0, 1)))
        house.do(("found", (3, 1)))
        none_such(self, "slot", (3, 1), house.do, ("found", (3, 1)))

    def test_a_hundred_lost_slots(self):
        house = House(Bench(), Hall([10, 20], lost_slots(100)), [CALF])
        too_many(self, 100, house.do, ("lost", (0, 2)))
        self.assertEqual((house.do(("lost", (0, 1))), house.many()), ((), 0))
        none_such(self, "slot", (0, 3), house.do, ("lost", (0, 3)))
        house.do(("found", (50, 1)))
        house.do(("lost", (0, 2)))
        self.assertEqual(len(house.nightbook().hall().lost()), 100)

    def test_pages(self):
        house = house_of(("page", lot(3, "oaka", 50)), ("page", wanted(4, "dukes", (7, 12))))
        told = house_told(house)
        bad(self, "page", house.do, ("page", lot(3, "oaka", 0)))
        already(self, "lot", "oaka", house.do, ("page", lot(3, "oaka", 51)))
        already(self, "set", "dukes", house.do, ("page", wanted(5, "dukes", (7, 12))))
        self.assertEqual((house_told(house), house.many()), (told, 2))
        for number in range(1, 99):
            house.do(("page", spoil(5, "dukes", number)))
        too_many(self, 100, house.do, ("page", spoil(5, "dukes", 99)))
        self.assertEqual(house.do(("page", spoil(5, "dukes", 98))), ())
        already(self, "lot", "oaka", house.do, ("page", lot(3, "oaka", 51)))
        bad(self, "page", house.do, ("page", None))
        self.assertEqual((len(house.stock()), house.many()), (100, 100))

    def test_kinds_of_refusals(self):
        house = house_of(job_deed(7))
        self.assertEqual(refused_by(house.do, None)[1], (BadValue, {"what": "deed"}))
        self.assertEqual(refused_by(house.do, job_deed(7))[1], (Already, {"what": "job", "name": 7}))
        full = House(Bench(), Hall([10], lost_slots(100)), [CALF, CLOTH])
        self.assertEqual(refused_by(full.do, ("lost", (200, 1)))[1], (TooMany, {"most": 100}))


if __name__ == "__main__":
    unittest.main()
