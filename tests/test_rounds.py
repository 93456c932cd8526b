"""Of what a round is made, and what it tells of itself."""

import unittest

from anything import Agreeing, Hostile, Posing, anything
from asking import alike, bad
from bindbench.rounds import Round
from roundwork import TOLD

CALLS = [(0, "calf", 3), (4, "cloth", 2), (4, "calf", 1)]


def of_calls(many):
    return [(k, "calf", 1) for k in range(many)]


def told(one):
    return (one.length(), one.calls())


class Made(unittest.TestCase):
    def test_of_a_list_and_of_a_tuple(self):
        self.assertEqual(told(Round(10, CALLS)), (10, CALLS))
        self.assertEqual(told(Round(10, tuple(CALLS))), (10, CALLS))

    def test_by_names_in_another_order(self):
        self.assertEqual(told(Round(calls=CALLS, length=10)), (10, CALLS))

    def test_of_no_calls(self):
        for one in (Round(10), Round(10, None), Round(10, []), Round(10, ()), Round(length=10)):
            self.assertEqual((told(one), len(one), one.total()), ((10, []), 0, 0))
            self.assertIs(bool(one), False)

    def test_lengths(self):
        for length in (1, 2, 999, 1000):
            self.assertEqual(Round(length).length(), length)
        for length in (-1, 0, 1001, 10 ** 18):
            bad(self, "length", Round, length)
            bad(self, "length", Round, length, CALLS)

    def test_how_many_calls(self):
        for many in (1, 2, 11, 12):
            one = Round(20, of_calls(many))
            self.assertEqual((len(one), one.calls()), (many, of_calls(many)))
            self.assertIs(bool(one), True)
        bad(self, "calls", Round, 20, of_calls(13))
        bad(self, "calls", Round, 20, tuple(of_calls(13)))
        bad(self, "calls", Round, 20, [(0, "calf", 1)] * 13)

    def test_at_below_length(self):
        for length in (1, 2, 10, 1000):
            self.assertEqual(Round(length, [(0, "calf", 1), (length - 1, "calf", 1)]).calls()[1][0], length - 1)
            bad(self, "calls", Round, length, [(length, "calf", 1)])
            bad(self, "calls", Round, length, [(0, "calf", 1), (length, "calf", 1)])
            bad(self, "calls", Round, length, [(-1, "calf", 1)])

    def test_at_not_below_the_one_ahead(self):
        for ats in [(3, 3, 3), (0, 3, 9), (9, 9)]:
            self.assertEqual([call[0] for call in Round(10, [(at, "calf", 1) for at in ats]).calls()], list(ats))
        for ats in [(3, 2), (0, 3, 2), (9, 9, 0), (1, 2, 1, 2)]:
            bad(self, "calls", Round, 10, [(at, "calf", 1) for at in ats])

    def test_hours(self):
        for hours in (1, 2, 999, 1000):
            self.assertEqual(Round(10, [(0, "calf", hours)]).total(), hours)
        for hours in (-1, 0, 1001):
            bad(self, "calls", Round, 10, [(0, "calf", hours)])

    def test_names(self):
        for name in ("c", "quarters"):
            self.assertEqual(Round(10, [(0, name, 1)]).calls()[0][1], name)
        for name in ("", "quartersx", "Calf", "calf ", "press", "round", "c1"):
            bad(self, "calls", Round, 10, [(0, name, 1)])

    def test_what_is_no_call(self):
        for wrong in [[0, "calf", 1], (0, "calf"), (0, "calf", 1, 1), ("calf", 0, 1), (), "0 calf 1", (True, "calf", 1),
                      (0, "calf", True), (0, "calf", "1"), ("0", "calf", 1)]:
            with self.subTest(repr(wrong)):
                bad(self, "calls", Round, 10, [wrong])
                bad(self, "calls", Round, 10, [(0, "calf", 1), wrong])
                bad(self, "calls", Round, 10, (wrong, (9, "calf", 1)))

    def test_of_anything(self):
        for called, thing in anything(but=["one", "two"]):
            with self.subTest(called):
                bad(self, "length", Round, thing)
                bad(self, "length", Round, thing, [])
        for called, thing in anything(but=["None", "an empty list", "an empty tuple"]):
            with self.subTest(called):
                bad(self, "calls", Round, 10, thing)

    def test_of_anything_among_the_calls(self):
        for called, thing in anything():
            with self.subTest(called):
                bad(self, "calls", Round, 10, [thing])
                bad(self, "calls", Round, 10, ((0, "calf", 1), thing))
        for called, thing in anything(but=["zero", "one", "two"]):
            with self.subTest(called):
                bad(self, "calls", Round, 10, [(thing, "calf", 1)])
        for called, thing in anything(but=["a name"]):
            with self.subTest(called):
                bad(self, "calls", Round, 10, [(0, thing, 1)])
        for called, thing in anything(but=["one", "two"]):
            with self.subTest(called):
                bad(self, "calls", Round, 10, [(0, "calf", thing)])

    def test_what_is_refused_first(self):
        for called, thing in anything(but=["None", "one", "two", "an empty list", "an empty tuple"]):
            with self.subTest(called):
                bad(self, "length", Round, thing, thing)
        bad(self, "length", Round, calls=1, length=0)

    def test_what_is_handed_in_stays_as_it_was(self):
        calls = list(CALLS)
        one = Round(10, calls)
        one.calls().clear()
        one.waiting(99), one.at(99), one.first_over(2)
        self.assertEqual(calls, CALLS)
        wrong = [(0, "calf", 1), None]
        bad(self, "calls", Round, 10, wrong)
        self.assertEqual(wrong, [(0, "calf", 1), None])

    def test_changing_it_later_changes_nothing(self):
        calls = list(CALLS)
        one = Round(10, calls)
        calls[0] = (0, "cloth", 1000)
        calls.append((9, "cloth", 1000))
        self.assertEqual((one.calls(), one.total(), len(one), one), (CALLS, 6, 3, Round(10, CALLS)))
        self.assertEqual((one.waiting(0), one.keeps_up()), (3, True))
        calls.clear()
        self.assertEqual(str(one), "round 10\n0 calf 3\n4 cloth 2\n4 calf 1")


class Told(unittest.TestCase):
    def test_the_list_of_calls_is_the_askers_own(self):
        one = Round(10, CALLS)
        first, again = one.calls(), one.calls()
        first.clear()
        self.assertEqual((again, one.calls(), len(one)), (CALLS, CALLS, 3))
        self.assertEqual([type(again), type(again[0])], [list, tuple])

    def test_total(self):
        for length, calls in TOLD:
            self.assertEqual(Round(length, calls).total(), sum(hours for _, _, hours in calls))
        self.assertEqual(Round(1, [(0, "calf", 1000)] * 12).total(), 12000)

    def test_keeps_up(self):
        for length, hours, so in [(10, 9, True), (10, 10, True), (10, 11, False), (1, 1, True), (1, 2, False),
                                  (1000, 1000, True), (999, 1000, False)]:
            self.assertIs(Round(length, [(0, "calf", hours)]).keeps_up(), so)
        self.assertIs(Round(10, [(0, "calf", 5), (9, "cloth", 5)]).keeps_up(), True)
        self.assertIs(Round(10, [(0, "calf", 5), (9, "cloth", 6)]).keeps_up(), False)
        self.assertIs(Round(1).keeps_up(), True)

    def test_text(self):
        self.assertEqual(str(Round(10, CALLS)), "round 10\n0 calf 3\n4 cloth 2\n4 calf 1")
        self.assertEqual(str(Round(1000)), "round 1000")
        self.assertEqual(str(Round(1, [(0, "a", 1000)])), "round 1\n0 a 1000")


class Compared(unittest.TestCase):
    def test_alike(self):
        alike(self, Round(10, CALLS), Round(10, tuple(CALLS)), True)
        alike(self, Round(10), Round(10, []), True)

    def test_unlike(self):
        for other in [Round(11, CALLS), Round(10, CALLS[:2]), Round(10, CALLS + [(9, "calf", 1)]), Round(10),
                      Round(10, [CALLS[0], CALLS[2], CALLS[1]]), Round(10, [(1, "calf", 3)] + CALLS[1:]),
                      Round(10, [(0, "clf", 3)] + CALLS[1:]), Round(10, [(0, "calf", 4)] + CALLS[1:])]:
            with self.subTest(str(other)):
                alike(self, Round(10, CALLS), other, False)

    def test_those_that_look_alike_need_not_be_the_same(self):
        alike(self, Round(1), Round(2), False)
        alike(self, Round(1, [(0, "a", 1)]), Round(1, [(0, "a", 2)]), False)

    def test_with_what_is_no_round(self):
        one = Round(10, CALLS)
        for called, thing in anything():
            with self.subTest(called):
                self.assertIs(one == thing, False)
                self.assertIs(one != thing, True)
        for thing in [Posing(Round), Agreeing(), Hostile(), str(one), one.calls(), (10, CALLS), 10, Round]:
            self.assertIs(one == thing, False)
            self.assertIs(one != thing, True)
        self.assertIs(Round(10) == [], False)


if __name__ == "__main__":
    unittest.main()
