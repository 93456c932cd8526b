"""Deeds that are taken back and done again, and stories, which are told whole or not at all."""

import unittest

from anything import Posing, anything
from asking import cant_be, untold
from bindbench.benches import Bench
from bindbench.halls import Hall
from bindbench.houses import House
from bindbench.styles import Style
from housework import REFUSALS, house_of, house_told, job_deed, refused_by, small_house, some_deeds
from stockwork import lot, spoil, wanted

BACK, AGAIN = ("back",), ("again",)
ALL_KINDS = (
    job_deed(7), job_deed(8, 100), job_deed(9, 50), ("order", 7, 5, 0, 0), ("order", 8, 11, 0, 1),
    ("order", 9, 20, 0, 0),
    ("haste", 7, True), ("lost", (1, 2)), ("found", (3, 1)), ("page", wanted(4, "dukes", (7, 12))),
    ("page", lot(5, "oaka", 20)), ("page", lot(3, "oakb", 15)), ("page", spoil(6, "dukes", 7)), ("gone", 9),
    ("haste", 7, False), ("lost", (0, 1)),
)


def turned(moves):
    """The moves of a deed that is taken back: who came in goes out, and the other way round."""
    words = {"in": "out", "out": "in"}
    return tuple(sorted((words.get(word, word), what) for word, what in moves))


class BackAndAgain(unittest.TestCase):
    def test_nothing_to_be_taken_back_or_done_again(self):
        house = small_house()
        told = house_told(house)
        cant_be(self, "back", house.do, BACK)
        cant_be(self, "again", house.do, AGAIN)
        house.do(("lost", (3, 1)))
        cant_be(self, "back", house.do, BACK)
        self.assertEqual((house_told(house), house.many()), (told, 0))
        house.do(job_deed(7))
        cant_be(self, "again", house.do, AGAIN)
        house.do(BACK)
        cant_be(self, "back", house.do, BACK)
        house.do(AGAIN)
        cant_be(self, "again", house.do, AGAIN)

    def test_all_is_as_it_was(self):
        house = small_house()
        stood, moved = [house_told(house)], []
        for deed in ALL_KINDS:
            moved.append(house.do(deed))
            stood.append(house_told(house))
        self.assertEqual({word for moves in moved for word, _ in moves}, {"bench", "in", "out", "slot", "set"})
        for _ in range(2):
            for place in reversed(range(len(ALL_KINDS))):
                self.assertEqual(house.do(BACK), turned(moved[place]))
                self.assertEqual((house_told(house), house.many()), (stood[place], place))
            for place in range(len(ALL_KINDS)):
                self.assertEqual(house.do(AGAIN), moved[place])
                self.assertEqual((house_told(house), house.many()), (stood[place + 1], place + 1))

    def test_back_and_again_themselves_are_not_taken_back(self):
        house = house_of(job_deed(7), job_deed(8), BACK, AGAIN, BACK)
        house.do(BACK)
        self.assertEqual((len(house), house.many()), (0, 0))
        house.do(AGAIN)
        house.do(AGAIN)
        self.assertEqual((len(house), house.many()), (2, 2))

    def test_a_deed_behind_a_back_lets_go_what_was_taken_back(self):
        house = house_of(job_deed(7), job_deed(8), job_deed(9), BACK, BACK, job_deed(4))
        cant_be(self, "again", house.do, AGAIN)
        self.assertEqual((house.many(), [number for number, _ in house.verdicts()]), (2, [4, 7]))
        house.do(BACK)
        self.assertEqual(len(house), 1)
        house.do(AGAIN)
        self.assertEqual([number for number, _ in house.verdicts()], [4, 7])

    def test_a_deed_that_changes_nothing_is_not_taken_back_and_lets_go_nothing(self):
        house = house_of(job_deed(7), job_deed(8), BACK)
        for deed in [("haste", 7, False), ("lost", (3, 1))]:
            self.assertEqual((house.do(deed), house.many()), ((), 1))
        house.do(AGAIN)
        self.assertEqual(len(house), 2)
        house.do(("page", lot(5, "oaka", 20)))
        house.do(("page", lot(5, "oaka", 20)))
        self.assertEqual(house.many(), 3)
        house.do(BACK)
        self.assertEqual((house.many(), len(house.stock())), (2, 0))

    def test_by_chance(self):
        for seed in range(120, 126):
            house, stood = small_house(), []
            for deed in some_deeds(seed, 100):
                ahead, many = house_told(house), house.many()
                refused_by(house.do, deed)
                if house.many() == many + 1 and deed[0] != "again":
                    del stood[many:]
                    stood.append((ahead, house_told(house)))
                if house.many() == many - 1:
                    self.assertEqual(house_told(house), stood[many - 1][0])
                if deed[0] == "again" and house.many() == many + 1:
                    self.assertEqual(house_told(house), stood[many][1])


class Stories(unittest.TestCase):
    def test_none_and_one(self):
        house = small_house()
        told = house_told(house)
        self.assertEqual((house.tell(()), house_told(house), house.many()), ([], told, 0))
        self.assertEqual(house.tell(story=(job_deed(7),)), [()])
        self.assertEqual((len(house), house.many()), (1, 1))

    def test_as_deed_by_deed(self):
        house, other = small_house(), small_house()
        story = ALL_KINDS + (BACK, BACK, AGAIN, ("haste", 7, True), ("haste", 7, True), BACK)
        moves = [other.do(deed) for deed in story]
        told = house.tell(story)
        self.assertEqual((told, type(told)), (moves, list))
        self.assertEqual((house_told(house), house.many(), house), (house_told(other), other.many(), other))
        self.assertEqual((house.do(AGAIN), house_told(house)), (other.do(AGAIN), house_told(other)))

    def test_three_hundred_and_one_more(self):
        story = (("lost", (1, 1)), ("found", (1, 1))) * 150
        house = small_house()
        self.assertEqual((len(house.tell(story)), house.many()), (300, 300))
        untold(self, None, house.tell, story + (BACK,))
        self.assertEqual(house.many(), 300)

    def test_refused_at_any_place(self):
        house = house_of(job_deed(1), job_deed(2), BACK)
        told = house_told(house)
        story = ALL_KINDS
        for refused in [None, ("job",), job_deed(1), job_deed(3, name="linen"), ("gone", 77), ("lost", (0, 9)),
                        ("page", 7), ("again",)]:
            for place in range(len(story) + 1):
                if refused != ("again",) or place > 0:
                    untold(self, place, house.tell, story[:place] + (refused,) + story[place:])
        self.assertEqual((house_told(house), house.many()), (told, 1))
        # Also what had been taken back can be done again, as if nothing had been told.
        house.do(AGAIN)
        self.assertEqual(len(house), 2)

    def test_the_first_of_several_that_are_refused(self):
        house = small_house()
        untold(self, 1, house.tell, (job_deed(7), job_deed(7), None, ("gone", 9)))
        untold(self, 2, house.tell, (job_deed(7), BACK, BACK, None))
        untold(self, 0, house.tell, (None,) * 300)
        untold(self, 299, house.tell, (job_deed(7), BACK) * 149 + (job_deed(7), None))
        self.assertEqual((len(house), house.many()), (0, 0))

    def test_by_whatever(self):
        house = house_of(*[job_deed(number) for number in range(1, 41)])
        for deed in [None, ("gone", 77), job_deed(1), job_deed(41), AGAIN]:
            with self.assertRaises(REFUSALS):
                house.copy().do(deed)
            untold(self, 1, house.tell, (("lost", (1, 1)), deed))
        self.assertEqual(house.many(), 40)

    def test_of_anything(self):
        house = house_of(job_deed(7))
        told = house_told(house)
        for called, thing in anything(but=["an empty tuple"]):
            with self.subTest(called):
                is_story = type(thing) is tuple and len(thing) <= 300
                untold(self, 0 if is_story else None, house.tell, thing)
                untold(self, 0, house.tell, (thing,))
                untold(self, 1, house.tell, (("lost", (0, 1)), thing))
                untold(self, 1, house.tell, (("lost", (0, 1)), ("lost", thing)))
        for story in [[job_deed(8)], [], {}, job_deed, "back", Posing(tuple), (None,) * 301, iter(())]:
            untold(self, None, house.tell, story)
        self.assertEqual((house_told(house), house.many()), (told, 1))

    def test_what_is_told_is_the_askers_own(self):
        house = small_house()
        told = house.tell((job_deed(7), job_deed(8, 100)))
        told.clear()
        self.assertEqual((len(house), house.many()), (2, 2))


class Much(unittest.TestCase):
    def test_forty_jobs_and_orders_and_stories_of_three_hundred_deeds(self):
        style = Style("calf", [(work, 10 + place, 20 + place) for place, work in
                               enumerate(["sew", "press", "glue", "cover", "letter", "press"] * 2)])
        lost = [(night, frame) for night in range(20) for frame in range(1, 6)]
        house = House(Bench(2, 1), Hall([7 * frame for frame in range(1, 9)] + [60], lost), [style])
        numbers = range(1, 41)
        jobs = tuple(("job", number, "calf", number, 900000 - 7 * number % 40, False) for number in numbers)
        orders = tuple(("order", number, number + 20, number % 9, number % 9 + 30) for number in numbers)
        lots = tuple(("page", lot(number, "o" + letter + other, 30)) for number, (letter, other) in
                     enumerate([(letter, other) for letter in "abcde" for other in "abcdefghij"]))
        sets = tuple(("page", wanted(number, "s" + letter + other, (number + 1, 9), (number + 2, 11 + number)))
                     for number, (letter, other) in enumerate([(one, two) for one in "abcde" for two in "abcdefghij"]))
        haste = tuple(("haste", number, True) for number in numbers)
        calm = tuple(("haste", number, False) for number in numbers)
        story = jobs + orders + lots + sets + haste + calm
        self.assertEqual(len(story), 260)
        story += (BACK,) * 20 + (AGAIN,) * 20
        told = house.tell(story)
        self.assertEqual((len(told), len(house), len(house.stock()), house.many()), (300, 40, 100, 260))
        self.assertEqual(len(house.verdicts()), 40)
        for deed in [("found", (3, 3)), ("lost", (25, 9)), ("haste", 40, True), ("gone", 40), BACK, BACK, AGAIN]:
            self.assertIs(type(house.do(deed)), tuple)


if __name__ == "__main__":
    unittest.main()
