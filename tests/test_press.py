"""What a press does in a round, however far, against a count hour by hour."""

import unittest

from anything import anything
from asking import bad, none_such
from bindbench.rounds import Round
from roundwork import TOLD, counts, some_rounds

FAR = 10 ** 18


def rounds():
    return [Round(length, calls) for length, calls in TOLD + list(some_rounds(32, 40))]


def step(one):
    return max(one.length(), one.total())


class AgainstACount(unittest.TestCase):
    def test_begins_and_ends(self):
        for length, calls, counted in counts():
            with self.subTest(str(counted.round)):
                self.assertTrue(counted.begins or not calls)
                for which, hour in counted.begins.items():
                    self.assertEqual(counted.round.begins(*which), hour)
                for which, hour in counted.ends.items():
                    self.assertEqual(counted.round.ends(*which), hour)

    def test_at_waiting_how_many_and_idle(self):
        for length, calls, counted in counts():
            one, hours = counted.round, range(len(counted.at))
            for ask, told in [(one.at, counted.at), (one.waiting, counted.waiting),
                              (one.how_many, counted.how_many), (one.idle, counted.idle)]:
                with self.subTest(f"{ask.__name__} of {one}"):
                    self.assertEqual([ask(hour) for hour in hours], told)

    def test_first_over(self):
        for length, calls, counted in counts():
            with self.subTest(str(counted.round)):
                for most in range(max(counted.waiting)):
                    hour = min(hour for hour, hours in enumerate(counted.waiting) if hours > most)
                    self.assertEqual(counted.round.first_over(most), hour)
                if counted.round.keeps_up():
                    self.assertIsNone(counted.round.first_over(max(counted.waiting)))


class ByHand(unittest.TestCase):
    def test_calls_at_one_hour_and_one_that_ends_a_length_later(self):
        # 9 to 13 of the last call of each round stands in the way of the calls at 10, 20 ..
        one = Round(10, [(0, "calf", 3), (0, "calf", 2), (9, "cloth", 4)])
        self.assertEqual([one.begins(0, call) for call in range(3)], [0, 3, 9])
        self.assertEqual([one.begins(1, call) for call in range(3)], [13, 16, 19])
        self.assertEqual([one.ends(5, call) for call in range(3)], [56, 58, 63])
        self.assertEqual(one.at(4), (0, 1, "calf", 1))
        self.assertEqual([one.at(hour) for hour in (5, 8, 9, 12, 13)],
                         [None, None, (0, 2, "cloth", 4), (0, 2, "cloth", 1), (1, 0, "calf", 3)])
        self.assertEqual([one.waiting(hour) for hour in (0, 4, 5, 9, 10, 11)], [5, 1, 0, 4, 8, 7])
        self.assertEqual([one.how_many(hour) for hour in (0, 3, 5, 9, 10, 13)], [2, 1, 0, 1, 3, 2])
        self.assertEqual([one.idle(hour) for hour in (0, 5, 6, 9, 10, 19, 20)], [0, 0, 1, 4, 4, 5, 5])
        self.assertEqual([one.first_over(most) for most in (0, 4, 5, 7, 8)], [0, 0, 10, 10, None])
        self.assertEqual([type(one.at(0)), type(one.begins(0, 0)), type(one.waiting(0))], [tuple, int, int])

    def test_one_that_does_not_keep_up(self):
        one = Round(10, [(2, "calf", 11)])
        self.assertEqual([one.begins(turn, 0) for turn in range(4)], [2, 13, 24, 35])
        self.assertEqual([one.waiting(hour) for hour in (1, 2, 12, 22)], [0, 11, 12, 13])
        self.assertEqual([one.first_over(most) for most in (0, 10, 11, 12, 20)], [2, 2, 12, 22, 102])
        self.assertEqual([one.idle(hour) for hour in (1, 2, 3, 100, FAR)], [1, 2, 2, 2, 2])

    def test_of_no_calls(self):
        one = Round(12)
        for hour in (0, 1, 11, 12, 13, FAR):
            self.assertEqual((one.at(hour), one.waiting(hour), one.how_many(hour), one.idle(hour)), (None, 0, 0, hour))
        for most in (0, 1, FAR):
            self.assertIsNone(one.first_over(most))

    def test_by_names_in_another_order(self):
        one = Round(10, [(0, "calf", 3), (0, "cloth", 2)])
        self.assertEqual((one.begins(call=1, turn=2), one.ends(call=1, turn=2)), (23, 25))
        self.assertEqual((one.at(hour=1), one.waiting(hour=1), one.how_many(hour=1), one.idle(hour=7)),
                         ((0, 0, "calf", 2), 4, 2, 2))
        self.assertEqual(one.first_over(most=4), 0)


class Far(unittest.TestCase):
    def test_begins_and_ends(self):
        for one in rounds():
            for call, (at, name, hours) in enumerate(one.calls()):
                for turn in (2, 3, 10 ** 9, FAR - 1, FAR):
                    begin = one.begins(1, call) + (turn - 1) * step(one)
                    self.assertEqual((one.begins(turn, call), one.ends(turn, call)), (begin, begin + hours))

    def test_begins_known(self):
        self.assertEqual(Round(10, [(9, "calf", 10)]).begins(FAR, 0), 10 * FAR + 9)
        self.assertEqual(Round(10, [(9, "calf", 11)]).begins(FAR, 0), 11 * FAR + 9)
        self.assertEqual(Round(1000, [(999, "calf", 1000)] * 12).ends(FAR, 11), 999 + 12000 * (FAR + 1))
        self.assertEqual(Round(1, [(0, "calf", 1)]).at(FAR), (FAR, 0, "calf", 1))

    def test_hours_of_rounds_that_keep_up(self):
        for one in rounds():
            if not one.keeps_up():
                continue
            length = one.length()
            idle = one.idle(2 * length) - one.idle(length)
            self.assertEqual(idle, length - one.total())
            turns = FAR // length - 1
            for hour in range(FAR - 2 * length, FAR + 1):
                turn, near = divmod(hour, length)
                near += length
                on = one.at(near)
                self.assertEqual(one.at(hour), on and (on[0] + turn - 1,) + on[1:])
                self.assertEqual((one.waiting(hour), one.how_many(hour)), (one.waiting(near), one.how_many(near)))
                self.assertEqual(one.idle(hour), one.idle(near) + (turn - 1) * idle)

    def test_hours_of_rounds_that_do_not_keep_up(self):
        for one in rounds():
            if one.keeps_up():
                continue
            length, total = one.length(), one.total()
            for hour in range(FAR - 2 * length, FAR + 1):
                turn, near = divmod(hour, length)
                near += length
                self.assertEqual(one.waiting(hour), one.waiting(near) + (turn - 1) * (total - length))
                self.assertEqual(one.idle(hour), one.idle(length))
            for hour in range(FAR - 20, FAR + 1):
                steps = (hour - length) // total
                on = one.at(hour - steps * total)
                self.assertEqual(one.at(hour), (on[0] + steps,) + on[1:])

    def test_at_and_begins_agree(self):
        for one in rounds():
            for hour in [FAR - k for k in range(30)]:
                on = one.at(hour)
                if on is not None:
                    turn, call, name, left = on
                    begin, end = one.begins(turn, call), one.ends(turn, call)
                    self.assertTrue(begin <= hour < end)
                    self.assertEqual((name, left), (one.calls()[call][1], end - hour))

    def test_how_many_grows(self):
        one = Round(1, [(0, "calf", 2)])
        self.assertEqual((one.how_many(FAR), one.waiting(FAR)), (FAR // 2 + 1, FAR + 2))
        one = Round(1000, [(0, "calf", 1000), (0, "cloth", 1)])
        self.assertEqual(one.waiting(FAR), 1001 + FAR // 1000)

    def test_first_over(self):
        self.assertEqual(Round(1000, [(0, "calf", 1000), (0, "cloth", 1)]).first_over(FAR), (FAR - 1000) * 1000)
        self.assertEqual(Round(1, [(0, "calf", 2)]).first_over(FAR), FAR - 1)
        self.assertEqual(Round(1, [(0, "calf", 1000)] * 12).first_over(FAR), (FAR - 12000) // 11999 + 1)
        for length, calls in TOLD:
            one = Round(length, calls)
            if one.keeps_up():
                self.assertIsNone(one.first_over(FAR))

    def test_first_over_is_the_least_hour(self):
        for one in rounds():
            if one.keeps_up():
                continue
            growth = one.total() - one.length()
            for most in [FAR // 10 ** 4 + k for k in range(0, 60, 7)]:
                hour = one.first_over(most)
                if hour > FAR:
                    continue
                self.assertGreater(one.waiting(hour), most)
                # Ahead of it no more than that waits: in two lengths each hour of a round comes twice.
                for sooner in range(hour - 2 * one.length(), hour):
                    self.assertLessEqual(one.waiting(sooner), most)
                self.assertEqual(one.waiting(hour + one.length()), one.waiting(hour) + growth)


class Refused(unittest.TestCase):
    def setUp(self):
        self.round = Round(10, [(0, "calf", 3), (4, "cloth", 9)])

    def test_hours(self):
        for ask in (self.round.at, self.round.waiting, self.round.how_many, self.round.idle):
            for hour in (-1, FAR + 1):
                bad(self, "hour", ask, hour)
            for hour in (0, FAR):
                ask(hour)

    def test_hours_of_anything(self):
        for called, thing in anything(but=["zero", "one", "two"]):
            with self.subTest(called):
                for ask in (self.round.at, self.round.waiting, self.round.how_many, self.round.idle, Round(1).at):
                    bad(self, "hour", ask, thing)

    def test_most(self):
        for most in (-1, FAR + 1):
            bad(self, "most", self.round.first_over, most)
            bad(self, "most", Round(10).first_over, most)
        for called, thing in anything(but=["zero", "one", "two"]):
            with self.subTest(called):
                bad(self, "most", self.round.first_over, thing)
                bad(self, "most", Round(10).first_over, thing)

    def test_turns_and_calls(self):
        for ask in (self.round.begins, self.round.ends):
            for turn in (-1, FAR + 1):
                bad(self, "round", ask, turn, 0)
            for call in (-1, 2, 3, 12):
                none_such(self, "call", call, ask, 0, call)
        for call in (-1, 0, 1):
            none_such(self, "call", call, Round(10).begins, 0, call)
            none_such(self, "call", call, Round(10).ends, 5, call)

    def test_turns_and_calls_of_anything(self):
        for ask in (self.round.begins, self.round.ends):
            for called, thing in anything(but=["zero", "one", "two"]):
                with self.subTest(called):
                    bad(self, "round", ask, thing, 0)
            for called, thing in anything(but=["zero", "one"]):
                with self.subTest(called):
                    none_such(self, "call", thing, ask, 0, thing)

    def test_what_is_refused_first(self):
        for ask in (self.round.begins, self.round.ends):
            bad(self, "round", ask, None, None)
            bad(self, "round", ask, call=2, turn=-1)
            none_such(self, "call", 2, ask, call=2, turn=FAR)

    def test_refused_it_changes_nothing(self):
        bad(self, "hour", self.round.at, None)
        bad(self, "round", self.round.begins, -1, 0)
        self.assertEqual(self.round, Round(10, [(0, "calf", 3), (4, "cloth", 9)]))
        self.assertEqual((self.round.begins(1, 0), self.round.waiting(14)), (13, 11))


if __name__ == "__main__":
    unittest.main()
