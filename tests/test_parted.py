"""By which hour two rounds are parted, against a count hour by hour."""

import itertools
import random
import unittest

from anything import Agreeing, Hostile, Posing, anything
from asking import bad
from bindbench.rounds import Round, parted
from roundwork import TOLD, Counted, some_rounds


def counted(length, calls, hours):
    """The names on the press at so many hours."""
    return Counted(length, calls, hours).names()


class AgainstACount(unittest.TestCase):
    def compare(self, told, hours):
        names = [counted(length, calls, hours) for length, calls in told]
        found = {"parted": 0, "alike": 0}
        for (one, its), (other, others) in itertools.product(zip(told, names), repeat=2):
            hour = next((hour for hour in range(hours) if its[hour] != others[hour]), None)
            self.assertEqual(parted(Round(*one), Round(*other)), hour, (one, other))
            if one != other:
                found["alike" if hour is None else "parted"] += 1
        return found

    def test_of_one_name(self):
        # With a single name many look alike, or are parted late.
        dice = random.Random(40)
        told = []
        for _ in range(45):
            length = dice.randint(1, 6)
            ats = sorted(dice.randrange(length) for _ in range(dice.randint(0, 3)))
            told.append((length, [(at, "a", dice.randint(1, 4)) for at in ats]))
        found = self.compare(told, 400)
        self.assertGreater(min(found.values()), 100)

    def test_of_two_names(self):
        told = list(some_rounds(41, 30, most_hours=4, names=("a", "b"))) + [one for one in TOLD if one[0] < 20]
        self.compare(told, 1500)

    def test_of_all_short_ones(self):
        told = []
        for length in (1, 2, 3):
            calls = [(at, name, 1) for at in range(length) for name in ("a", "b")]
            for many in (0, 1, 2, 3):
                told += [(length, list(some)) for some in itertools.combinations(calls, many)]
        self.compare(told, 60)


class ByHand(unittest.TestCase):
    def test_at_once_and_later(self):
        one = Round(10, [(2, "a", 3)])
        for other, hour in [(Round(10, [(2, "b", 3)]), 2), (Round(10, [(1, "a", 4)]), 1), (Round(10, [(3, "a", 2)]), 2),
                            (Round(10, [(2, "a", 2)]), 4), (Round(10, [(2, "a", 4)]), 5), (Round(10), 2),
                            (Round(11, [(2, "a", 3)]), 12), (Round(9, [(2, "a", 3)]), 11),
                            (Round(20, [(2, "a", 3)]), 12), (Round(20, [(2, "a", 3), (12, "a", 4)]), 15),
                            (Round(1, [(0, "a", 1)]), 0)]:
            with self.subTest(str(other)):
                self.assertEqual(parted(one, other), hour)
                self.assertEqual(parted(other, one), hour)

    def test_alike(self):
        for one, other in [(Round(10, [(2, "a", 3)]), Round(20, [(2, "a", 3), (12, "a", 3)])),
                           (Round(10, [(2, "a", 3)]), Round(10, [(2, "a", 1), (2, "a", 2)])),
                           (Round(10, [(2, "a", 3)]), Round(10, [(2, "a", 1), (3, "a", 2)])),
                           (Round(1), Round(1000)), (Round(1, [(0, "a", 1)]), Round(1000, [(0, "a", 1000)])),
                           (Round(1, [(0, "a", 2)]), Round(7, [(0, "a", 1000)] * 12)),
                           (Round(2, [(1, "a", 1), (1, "b", 1)]), Round(2, [(1, "a", 1), (1, "b", 1), (1, "a", 1),
                                                                            (1, "b", 1)])),
                           (Round(3, [(0, "a", 2), (0, "b", 2)]), Round(1, [(0, "a", 2), (0, "b", 2)]))]:
            with self.subTest(str(one)):
                self.assertIsNone(parted(one, other))
                self.assertIsNone(parted(other, one))
                self.assertIsNone(parted(one, one))

    def test_by_names_in_another_order(self):
        self.assertEqual(parted(other=Round(10), one=Round(10, [(4, "a", 1)])), 4)

    def test_late_by_words_that_agree_as_long_as_they_can(self):
        # Words with steps of 5 and 8 hours agree for eleven hours, and not for twelve.
        five, eight = "abaab", "abaababa"
        for length in (1, 2, 5):
            one = Round(length, [(0, letter, 1) for letter in five])
            other = Round(length, [(0, letter, 1) for letter in eight])
            self.assertEqual((parted(one, other), parted(other, one)), (11, 11))

    def test_as_late_as_can_be(self):
        # a for 10,000 hours, b for one; and the same with an a behind it.
        for length, at in [(1, 0), (1000, 0), (1000, 999), (2, 1)]:
            calls = [(at, "a", 1000)] * 10 + [(at, "b", 1)]
            one, other = Round(length, calls), Round(length, calls + [(at, "a", 1)])
            self.assertEqual((parted(one, other), parted(other, one)), (at + 20001, at + 20001))

    def test_far_and_alike(self):
        calls = [(999, "a", 1000)] * 12
        self.assertIsNone(parted(Round(1000, calls), Round(1000, calls[:11])))
        self.assertIsNone(parted(Round(1000, calls), Round(1000, calls)))
        self.assertEqual(parted(Round(1000, calls[1:] + [(999, "b", 1000)]), Round(1000, calls)), 11999)
        self.assertEqual(parted(Round(1000, [(999, "a", 1)]), Round(1000, [(999, "b", 1)])), 999)
        self.assertEqual(parted(Round(1000), Round(1000, [(999, "b", 1)])), 999)


class Refused(unittest.TestCase):
    def test_of_anything(self):
        one = Round(10)
        for called, thing in anything():
            with self.subTest(called):
                bad(self, "round", parted, thing, one)
                bad(self, "round", parted, one, thing)
                bad(self, "round", parted, thing, thing)
        for thing in [Posing(Round), Agreeing(), Hostile(), str(one), one.calls(), Round]:
            bad(self, "round", parted, thing, one)
            bad(self, "round", parted, other=thing, one=one)


if __name__ == "__main__":
    unittest.main()
