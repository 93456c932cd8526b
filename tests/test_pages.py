"""Pages: what is one, its text, and what is read of a text."""

import random
import unittest

from anything import Posing, anything
from bindbench.stuffs import is_page, page_text, read_page
from stockwork import lot, some_stocks, spoil, wanted

LAST_DAY, MOST_INCHES, LAST_NUMBER = 9999, 10 ** 6, 99999
TWELVE = tuple((number, number) for number in range(1, 13))
GOOD = [
    lot(3, "oaka", 500), lot(0, "a", 1), lot(LAST_DAY, "quarters", MOST_INCHES), ("lot", 1, "lot", "lot", 1),
    ("lot", 1, "set", "spoil", 1), wanted(4, "dukes", (7, 12), (9, 30)), wanted(0, "set", (1, 1), colour="set"),
    wanted(LAST_DAY, "quarters", (LAST_NUMBER, MOST_INCHES), colour="quarters"), wanted(4, "dukes", *TWELVE),
    wanted(4, "dukes", (7, 12), (8, 12)), spoil(5, "dukes", 7), spoil(0, "a", 1), spoil(LAST_DAY, "lot", LAST_NUMBER),
]
BAD = [
    lot(-1, "oaka", 5), lot(LAST_DAY + 1, "oaka", 5), lot(3, "oaka", 0), lot(3, "oaka", MOST_INCHES + 1),
    lot(3, "Oaka", 5), lot(3, "", 5), lot(3, "quartersx", 5), lot(3, "style", 5), lot(3, "oaka", 5, "haste"),
    lot(3, "oaka", 5, "red7"), lot(True, "oaka", 5), lot(3, "oaka", True), lot("3", "oaka", 5), lot(3, "oaka", "5"),
    lot(3, "oaka", 5)[:4], lot(3, "oaka", 5) + (5,), list(lot(3, "oaka", 5)), ("lots",) + lot(3, "oaka", 5)[1:],
    ("Lot",) + lot(3, "oaka", 5)[1:], ("set",) + lot(3, "oaka", 5)[1:], ("spoil",) + lot(3, "oaka", 5)[1:],
    wanted(4, "dukes"), wanted(4, "dukes", *TWELVE, (13, 1)), wanted(4, "dukes", (9, 30), (7, 12)),
    wanted(4, "dukes", (7, 12), (7, 12)), wanted(4, "dukes", (7, 12), (7, 13)), wanted(4, "dukes", (0, 12)),
    wanted(4, "dukes", (LAST_NUMBER + 1, 12)), wanted(4, "dukes", (7, 0)), wanted(4, "dukes", (7, MOST_INCHES + 1)),
    wanted(4, "dukes", (True, 12)), wanted(4, "dukes", (7, True)), wanted(4, "dukes", [7, 12]),
    wanted(4, "dukes", (7,)), wanted(4, "dukes", (7, 12, 12)), wanted(4, "dukes", None), wanted(4, "press", (7, 12)),
    wanted(4, "dukes", (7, 12), colour="press"), wanted(-1, "dukes", (7, 12)), wanted(LAST_DAY + 1, "dukes", (7, 12)),
    ("set", 4, "dukes", "red", [(7, 12)]), ("set", 4, "dukes", "red", {7: 12}), ("set", 4, "dukes", "red", 7, 12),
    ("set", 4, "dukes", "red"), spoil(-1, "dukes", 7), spoil(LAST_DAY + 1, "dukes", 7), spoil(5, "job", 7),
    spoil(5, "dukes", 0), spoil(5, "dukes", LAST_NUMBER + 1), spoil(5, "dukes", True), spoil(5, "dukes", "7"),
    spoil(5, "dukes", 7) + (1,), spoil(5, "dukes", 7)[:3], list(spoil(5, "dukes", 7)), ("spoil",), ("lot",), ("set",),
    (), ("back",), "lot 3 red oaka 500", (("lot",), 3, "red", "oaka", 5), (None, 3, "red", "oaka", 5),
]


class IsPage(unittest.TestCase):
    def test_at_each_bound_and_one_beyond(self):
        for page in GOOD:
            with self.subTest(page):
                self.assertIs(is_page(page), True)
        for page in BAD:
            with self.subTest(page):
                self.assertIs(is_page(page), False)
        self.assertIs(is_page(thing=GOOD[0]), True)

    def test_of_anything(self):
        for called, thing in anything():
            with self.subTest(called):
                self.assertIs(is_page(thing), False)
                for word in ("lot", "set", "spoil"):
                    self.assertIs(is_page((word, thing)), False)
                    self.assertIs(is_page((word, thing, thing, thing)), False)
                    self.assertIs(is_page((word, thing, thing, thing, thing)), False)
                self.assertIs(is_page((thing, 3, "red", "oaka", 500)), False)

    def test_anything_in_the_place_of_each_part(self):
        for called, thing in anything(but=["zero", "one", "two", "a name", "a kind", "a work"]):
            for page in (lot(3, "oaka", 500), wanted(4, "dukes", (7, 12), (9, 30)), spoil(5, "dukes", 7)):
                for place in range(len(page)):
                    with self.subTest(called + " in place " + str(place)):
                        self.assertIs(is_page(page[:place] + (thing,) + page[place + 1:]), False)
            with self.subTest(called):
                self.assertIs(is_page(wanted(4, "dukes", thing)), False)
                self.assertIs(is_page(wanted(4, "dukes", (thing, 12))), False)
                self.assertIs(is_page(wanted(4, "dukes", (7, thing))), False)
                self.assertIs(is_page(wanted(4, "dukes", (7, 12), thing)), False)

    def test_what_poses_as_a_page(self):
        self.assertIs(is_page(Posing(tuple)), False)
        self.assertIs(is_page(("lot", Posing(int), "red", "oaka", 5)), False)


class Texts(unittest.TestCase):
    def test_told(self):
        for page, text in [(lot(3, "oaka", 500), "lot 3 red oaka 500"), (spoil(5, "dukes", 7), "spoil 5 dukes 7"),
                           (wanted(4, "dukes", (7, 12), (9, 30)), "set 4 dukes red 7 12 9 30"),
                           (wanted(0, "a", (1, 10 ** 6)), "set 0 a red 1 1000000")]:
            self.assertEqual((page_text(page), page_text(page=page)), (text, text))
            self.assertEqual((read_page(text), read_page(text=text)), (page, page))

    def test_each_that_is_told_is_read_back(self):
        for page in GOOD + [page for pages in some_stocks(90, 40) for page in pages]:
            found = read_page(page_text(page))
            self.assertEqual(found, page)
            self.assertEqual([type(part) for part in found], [type(part) for part in page])
            self.assertIs(is_page(found), True)

    def test_texts_of_none(self):
        for text in ["", " ", "lot", "lot 3", "lot 3 red oaka", "lot 3 red oaka 500 1", "lot 3 red  oaka 500",
                     " lot 3 red oaka 500", "lot 3 red oaka 500 ", "Lot 3 red oaka 500", "lots 3 red oaka 500",
                     "lot 03 red oaka 500", "lot 3 red oaka 0500", "lot 3 red oaka +500", "lot 3 red oaka -5",
                     "lot 3 red oaka 0", "lot 3 red oaka 1000001", "lot 10000 red oaka 5", "lot -1 red oaka 5",
                     "lot 3 Red oaka 5", "lot 3 red oak7 5", "lot 3 red job 5", "lot red 3 oaka 5",
                     "lot 3 red oaka 5\n",
                     "lot 3 red\noaka 5", "lot\n3 red oaka 5", "set", "set 4", "set 4 dukes", "set 4 dukes red",
                     "set 4 dukes red 7", "set 4 dukes red 7 12 9", "set 4 dukes red 9 30 7 12",
                     "set 4 dukes red 7 12 7 12", "set 4 dukes red 0 12", "set 4 dukes red 7 0", "set 4 dukes red 7 x",
                     "set 4 dukes red x 7", "set 4 dukes red 07 12", "set 10000 dukes red 7 12", "set x dukes red 7 12",
                     "set 4 dukes red 100000 12", "set 4 dukes red 7 1000001", "set 4 round red 7 12",
                     "set 4 dukes round 7 12", "set 4 dukes red 7 12 ", "set 4 dukes red  7 12", "spoil", "spoil 5",
                     "spoil 5 dukes", "spoil 5 dukes 7 7", "spoil 5 dukes 0", "spoil 5 dukes 100000", "spoil 5 dukes x",
                     "spoil x dukes 7", "spoil 5 Dukes 7", "spoil 5 dukes 7 ", "spoil 5  dukes 7", "job 7 calf 10 200",
                     "lot 3 red oaka 1.0", "lot 3 red oaka 1e3", "lot 3 red oaka " + "9" * 5000, "x",
                     "3 lot red oaka 5", "set 4 dukes red " + " ".join(f"{number} 1" for number in range(1, 14)),
                     "set 4 dukes red" + " 7 12" * 3000]:
            with self.subTest(text[:40]):
                self.assertIsNone(read_page(text))

    def test_of_anything(self):
        for called, thing in anything():
            with self.subTest(called):
                self.assertIsNone(read_page(thing))
        for thing in [b"lot 3 red oaka 500", ["lot 3 red oaka 500"], lot(3, "oaka", 500), Posing(str)]:
            self.assertIsNone(read_page(thing))

    def test_a_text_spoiled_in_one_sign_is_read_only_if_it_is_told_so(self):
        dice = random.Random(91)
        read = 0
        for page in GOOD * 40:
            text = page_text(page)
            place = dice.randrange(len(text))
            other = text[:place] + dice.choice(["", " ", "0", "7", "a", "\n", "-", "A", "01"]) + text[place + 1:]
            found = read_page(other)
            if found is not None:
                read += 1
                self.assertEqual(page_text(found), other)
                self.assertIs(is_page(found), True)
        self.assertGreater(read, 50)


if __name__ == "__main__":
    unittest.main()
