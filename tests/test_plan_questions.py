"""What a plan tells of its steps, its hours and its places."""

import unittest

from anything import anything
from asking import bad, none_such
from benchwork import calf, job, pressed, sewn, some_plans, three_jobs
from bindbench.benches import Bench, Plan
from bindbench.styles import Job

HAND, PRESS = ("hand", 1), ("press", 1)
LAST = 10 ** 9


def three():
    """On one hand and one press: 30 in haste, then 9, then 7 (its rows are told in test_plans)."""
    return Plan(Bench(), three_jobs())


class OfAnything(unittest.TestCase):
    """The refusals that many of a plan's questions share."""

    def setUp(self):
        self.plan = three()
        self.text = str(self.plan)

    def tearDown(self):
        self.assertEqual((str(self.plan), len(self.plan), self.plan), (self.text, 3, three()))

    def test_jobs(self):
        for called, thing in anything():
            with self.subTest(called):
                for ask in (self.plan.done, self.plan.chain, self.plan.without_job):
                    none_such(self, "job", thing, ask, thing)
                for ask in (self.plan.ready, self.plan.held):
                    none_such(self, "job", thing, ask, thing, 1)
                none_such(self, "job", thing, self.plan.where, thing, 1)
        for called, thing in anything(but=["None"]):
            with self.subTest(called):
                none_such(self, "job", thing, self.plan.rows, thing)
                none_such(self, "job", thing, self.plan.late, thing)
        for number in (-7, 0, 6, 8, 99999, 100000, "7", (7,), [7]):
            for ask in (self.plan.done, self.plan.chain, self.plan.rows, self.plan.late):
                none_such(self, "job", number, ask, number)

    def test_a_truth_is_no_number(self):
        plan = Plan(Bench(), [sewn(1, 5)])
        for ask in (plan.done, plan.chain, plan.rows, plan.late, plan.without_job):
            none_such(self, "job", True, ask, True)
        none_such(self, "job", True, plan.ready, True, 1)
        none_such(self, "job", True, plan.where, True, 1)
        for ask in (plan.ready, plan.held):
            none_such(self, "step", True, ask, 1, True)

    def test_steps(self):
        for called, thing in anything(but=["one", "two"]):
            with self.subTest(called):
                none_such(self, "step", thing, self.plan.ready, 7, thing)
                none_such(self, "step", thing, self.plan.held, 7, thing)
        for step in (-1, 0, 4, 12):
            none_such(self, "step", step, self.plan.ready, 7, step)
            none_such(self, "step", step, self.plan.held, step=step, number=7)

    def test_hours(self):
        for called, thing in anything(but=["zero", "one", "two"]):
            with self.subTest(called):
                bad(self, "hour", self.plan.where, 7, thing)
                bad(self, "hour", self.plan.at, thing)
        for hour in (-1, LAST + 1):
            bad(self, "hour", self.plan.where, 7, hour)
            bad(self, "hour", self.plan.at, hour)

    def test_places(self):
        for called, thing in anything():
            with self.subTest(called):
                none_such(self, "place", thing, self.plan.next_free, thing)
                none_such(self, "place", thing, self.plan.busy, thing)
                for place in [(thing, thing), (thing, 1, 1)]:
                    none_such(self, "place", place, self.plan.next_free, place)
                    none_such(self, "place", place, self.plan.busy, place)
        for called, thing in anything(but=["one"]):
            with self.subTest(called):
                place = ("hand", thing)
                none_such(self, "place", place, self.plan.busy, place)
                none_such(self, "place", place, self.plan.next_free, place)
        for called, thing in anything(but=["a kind"]):
            with self.subTest(called):
                place = (thing, 1)
                none_such(self, "place", place, self.plan.busy, place)
                none_such(self, "place", place, self.plan.next_free, place)
        for place in [("hand", 0), ("hand", 2), ("press", 2), ("press", -1), ["hand", 1], ("sew", 1), "hand 1",
                      ("hand", "1"), ("hand",), ("hand", 1, 1), (1, "hand"), ("press", True)]:
            none_such(self, "place", place, self.plan.busy, place)
            none_such(self, "place", place, self.plan.next_free, place)

    def test_hours_and_since_of_next_free(self):
        for called, thing in anything(but=["one", "two"]):
            with self.subTest(called):
                bad(self, "hours", self.plan.next_free, HAND, thing)
        for called, thing in anything(but=["zero", "one", "two"]):
            with self.subTest(called):
                bad(self, "since", self.plan.next_free, HAND, 1, thing)
        for hours in (-1, 0, 10 ** 6 + 1):
            bad(self, "hours", self.plan.next_free, HAND, hours)
        for since in (-1, 10 ** 6 + 1):
            bad(self, "since", self.plan.next_free, HAND, 1, since)

    def test_what_is_refused_first(self):
        none_such(self, "job", 8, self.plan.ready, 8, 0)
        none_such(self, "job", 8, self.plan.held, 8, None)
        none_such(self, "job", 8, self.plan.held, step=9, number=8)
        none_such(self, "job", None, self.plan.where, None, None)
        none_such(self, "job", 8, self.plan.where, hour=-1, number=8)
        none_such(self, "place", None, self.plan.next_free, None, 0, -1)
        bad(self, "hours", self.plan.next_free, HAND, 0, -1)
        bad(self, "hours", self.plan.next_free, since=-1, hours=0, place=HAND)


class Held(unittest.TestCase):
    def test_by_what(self):
        plan = three()
        self.assertEqual(plan.held(9, 1), [(HAND, 30, 1)])
        self.assertEqual(plan.held(9, 2), [(PRESS, 30, 2)])
        self.assertEqual(plan.held(7, 1), [(HAND, 9, 1)])
        self.assertEqual(plan.held(step=2, number=7), [(PRESS, 9, 2)])
        self.assertEqual([type(plan.held(9, 1)), type(plan.held(9, 1)[0])], [list, tuple])

    def test_by_nothing(self):
        plan = three()
        for number, step in [(30, 1), (30, 2), (30, 3), (9, 3), (7, 3)]:
            self.assertEqual(plan.held(number, step), [])

    def test_at_each_place_of_the_kind(self):
        plan = Plan(Bench(3, 2), [sewn(1, 5), sewn(2, 3), sewn(3, 4), sewn(4, 2), sewn(5, 9), pressed(6, 50)])
        self.assertEqual(plan.held(4, 1), [(HAND, 1, 1), (("hand", 2), 2, 1), (("hand", 3), 3, 1)])
        # From 4 to 13 the hours are reckoned from 3 on: there 4 is at the second place.
        self.assertEqual(plan.rows(5), [(5, 1, ("hand", 3), 4, 13)])
        self.assertEqual(plan.held(5, 1), [(HAND, 1, 1), (("hand", 2), 4, 1), (("hand", 3), 3, 1)])
        self.assertEqual(plan.held(6, 1), [])

    def test_reckoned_from_one_hour_ahead_of_its_begin(self):
        # 4 is READY at 1, but from no hour ahead of 11 on it has eight hours free: 3, from 9 to 11, is in the way last.
        plan = Plan(Bench(), [sewn(2, 2, 6, 9), sewn(3, 2, 9, 12), sewn(4, 8, 1)])
        self.assertEqual((plan.rows(4), plan.held(4, 1)), ([(4, 1, HAND, 11, 19)], [(HAND, 3, 1)]))
        # The other hand is in the way all the time by 5.
        plan = Plan(Bench(2, 1), [sewn(1, 4, 0, 5), sewn(5, 20, 0, 6), sewn(2, 2, 6, 9), sewn(3, 2, 9, 12),
                                  sewn(4, 3, 7)])
        self.assertEqual((plan.rows(4), plan.held(4, 1)),
                         ([(4, 1, HAND, 11, 14)], [(HAND, 3, 1), (("hand", 2), 5, 1)]))

    def test_the_earliest_not_the_first_that_was_put_in(self):
        # From hour 5 on, nine hours of 4 meet 2 (from 5 on) and 1 (from 8 on) at hand 1; 1 was put in ahead of 2.
        plan = Plan(Bench(2, 1), [sewn(1, 2, 8, 10), sewn(2, 2, 5, 12), sewn(6, 6, 0, 13), sewn(4, 9, 4)])
        self.assertEqual([row[2:] for row in plan.rows()],
                         [(HAND, 8, 10), (HAND, 5, 7), (("hand", 2), 0, 6), (("hand", 2), 6, 15)])
        self.assertEqual(plan.held(4, 1), [(HAND, 2, 1), (("hand", 2), 6, 1)])

    def test_at_the_last_of_its_hours_and_behind_them(self):
        # Three hours from 5 on, one ahead of the begin at 6: hand 1 is taken from 7 on, the last of them.
        jobs = [sewn(1, 2, 7, 10), sewn(5, 5, 0, 11), sewn(6, 6, 0, 13)]
        plan = Plan(Bench(2, 1), jobs + [sewn(4, 3, 5)])
        self.assertEqual((plan.rows(4), plan.held(4, 1)),
                         ([(4, 1, ("hand", 2), 6, 9)], [(HAND, 1, 1), (("hand", 2), 6, 1)]))
        # Two hours from 5 on don't meet it: it could begin there.
        plan = Plan(Bench(2, 1), jobs + [sewn(4, 2, 5)])
        self.assertEqual((plan.rows(4), plan.held(4, 1)), ([(4, 1, HAND, 5, 7)], []))

    def test_not_by_what_was_put_in_later(self):
        # 3 is put in last, into the hours from 1 to 3 of the second hand.
        plan = Plan(Bench(2, 1), [sewn(1, 4, 0, 10), sewn(2, 6, 3, 11), sewn(4, 8, 0, 12), sewn(3, 2, 1, 13)])
        self.assertEqual([row[2:] for row in plan.rows()],
                         [(HAND, 0, 4), (("hand", 2), 3, 9), (HAND, 4, 12), (("hand", 2), 1, 3)])
        self.assertEqual(plan.held(4, 1), [(HAND, 1, 1), (("hand", 2), 2, 1)])
        for number in (1, 2, 3):
            self.assertEqual(plan.held(number, 1), [])

    def test_against_a_count_hour_by_hour(self):
        for plan, counted in some_plans(5, 120):
            for which, held in counted.held.items():
                self.assertEqual(plan.held(*which), held)

    def test_the_list_is_the_askers_own(self):
        plan = three()
        plan.held(9, 1).clear()
        plan.held(30, 1).append(None)
        self.assertEqual((plan.held(9, 1), plan.held(30, 1)), ([(HAND, 30, 1)], []))


class Chain(unittest.TestCase):
    def test_of_one_job(self):
        plan = three()
        self.assertEqual(plan.chain(30), [(30, 1), (30, 2), (30, 3)])
        self.assertEqual(Plan(Bench(), [sewn(7, 4, 9)]).chain(number=7), [(7, 1)])
        self.assertEqual([type(plan.chain(30)), type(plan.chain(30)[0])], [list, tuple])

    def test_over_several(self):
        plan = three()
        self.assertEqual(plan.chain(9), [(30, 1), (30, 2), (9, 2), (9, 3)])
        self.assertEqual(plan.chain(7), [(30, 1), (30, 2), (9, 2), (7, 2), (7, 3)])

    def test_ready_just_when_its_place_gets_free(self):
        # 2 is READY when 1 ends: it isn't HELD, so it follows none.
        plan = Plan(Bench(), [sewn(1, 5, 0, 9), sewn(2, 3, 5)])
        self.assertEqual(plan.chain(2), [(2, 1)])
        # And a later step that is so follows the step ahead of it.
        plan = Plan(Bench(2, 1), [sewn(1, 5, 0, 9), job(2, [("press", 3, 2), ("sew", 4, 0)], 0, 10)])
        self.assertEqual((plan.rows(2)[1], plan.chain(2)), ((2, 2, HAND, 5, 9), [(2, 1), (2, 2)]))

    def test_the_one_at_its_own_place(self):
        plan = Plan(Bench(2, 2), [sewn(1, 5), sewn(2, 5), sewn(3, 2), sewn(4, 2), pressed(5, 5)])
        self.assertEqual((plan.chain(3), plan.chain(4)), ([(1, 1), (3, 1)], [(2, 1), (4, 1)]))

    def test_as_long_as_can_be(self):
        plan = Plan(Bench(), [job(number, [("press", 2, 1)] * 12, 5, 5) for number in range(1, 41)])
        chain = plan.chain(40)
        self.assertEqual((chain[0], chain[-1]), ((1, 1), (40, 12)))
        self.assertEqual(plan.done(40), done_by_chain(plan, chain))

    def test_it_comes_to_the_hour_of_done(self):
        lengths = {}
        for plan, counted in some_plans(6, 120):
            for number in counted.done:
                chain = plan.chain(number)
                self.assertEqual(done_by_chain(plan, chain), counted.done[number])
                self.assertEqual(chain[-1], plan.rows(number)[-1][:2])
                jobs = len({one for one, step in chain})
                lengths[jobs] = lengths.get(jobs, 0) + 1
        self.assertGreater(min(lengths.get(jobs, 0) for jobs in (1, 2, 3, 4)), 5)

    def test_each_follows_the_one_ahead(self):
        for plan, counted in some_plans(7):
            rows = {row[:2]: row[2:] for row in counted.rows}
            for number in counted.done:
                chain = plan.chain(number)
                self.assertEqual(rows[chain[0]][1], counted.ready[chain[0]])
                self.assertEqual(chain[0][1], 1)
                for ahead, behind in zip(chain, chain[1:]):
                    if counted.ready[behind] == rows[behind][1]:
                        self.assertEqual(ahead, (behind[0], behind[1] - 1))
                    else:
                        self.assertEqual((rows[ahead][0], rows[ahead][2]), rows[behind][:2])

    def test_the_list_is_the_askers_own(self):
        plan = three()
        plan.chain(9).clear()
        self.assertEqual(len(plan.chain(9)), 4)


def done_by_chain(plan, chain):
    """The sum that the document tells."""
    jobs = {one.numbered(): one for one in plan.jobs()}
    hour = jobs[chain[0][0]].brought_at()
    for at, (number, step) in enumerate(chain):
        _, hours, rest = jobs[number].of_style().step(step)
        hour += hours
        if at + 1 == len(chain) or chain[at + 1][0] == number:
            hour += rest
    return hour


class Where(unittest.TestCase):
    def test_just_ahead_at_and_behind(self):
        # Brought at 3; waits to 6, at 1 to 12, waits to 18, at 2 to 30, rests to 38, at 3 to 40, rests to 64.
        plan = three()
        for hour, told in [(0, ("away", 0)), (2, ("away", 0)), (3, ("waits", 1)), (5, ("waits", 1)), (6, ("at", 1)),
                           (7, ("at", 1)), (11, ("at", 1)), (12, ("waits", 2)), (17, ("waits", 2)), (18, ("at", 2)),
                           (29, ("at", 2)), (30, ("rests", 2)), (37, ("rests", 2)), (38, ("at", 3)), (39, ("at", 3)),
                           (40, ("rests", 3)), (63, ("rests", 3)), (64, ("done", 0)), (65, ("done", 0)),
                           (10 ** 6 + 1, ("done", 0)), (LAST, ("done", 0))]:
            with self.subTest(hour):
                self.assertEqual(plan.where(9, hour), told)
        self.assertEqual(plan.where(hour=63, number=9), ("rests", 3))
        self.assertIs(type(plan.where(9, 0)), tuple)

    def test_waits_behind_a_rest(self):
        plan = Plan(Bench(), [job(1, [("sew", 2, 3), ("sew", 2, 0)], 0, 9), sewn(2, 3, 0, 10),
                              job(3, [("press", 1, 1), ("glue", 1, 0)], 1, 11)])
        self.assertEqual([plan.where(3, hour) for hour in range(10)], [
            ("away", 0), ("at", 1), ("rests", 1), ("waits", 2), ("waits", 2), ("waits", 2), ("waits", 2), ("at", 2),
            ("done", 0), ("done", 0)])

    def test_without_rest_done_at_its_end(self):
        plan = Plan(Bench(), [job(1, [("sew", 2, 0), ("sew", 1, 0)], 4)])
        self.assertEqual([plan.where(1, hour) for hour in range(3, 9)], [
            ("away", 0), ("at", 1), ("at", 1), ("at", 2), ("done", 0), ("done", 0)])

    def test_brought_at_the_first_and_at_the_last_hour(self):
        plan = Plan(Bench(), [sewn(1, 1), sewn(2, 1, 10 ** 6)])
        self.assertEqual([plan.where(1, hour) for hour in (0, 1)], [("at", 1), ("done", 0)])
        self.assertEqual([plan.where(2, 10 ** 6 + k) for k in (-1, 0, 1)], [("away", 0), ("at", 1), ("done", 0)])

    def test_against_a_count_hour_by_hour(self):
        for plan, counted in some_plans(8):
            for hour in range(plan.end() + 3):
                for one in counted.jobs:
                    self.assertEqual(plan.where(one.numbered(), hour), counted.where(one, hour))


class At(unittest.TestCase):
    def test_just_ahead_at_and_behind(self):
        plan = three()
        for hour, told in [(0, [(HAND, 30, 1)]), (5, [(HAND, 30, 1)]), (6, [(HAND, 9, 1), (PRESS, 30, 2)]),
                           (12, [(HAND, 7, 1), (PRESS, 30, 2)]), (17, [(HAND, 7, 1), (PRESS, 30, 2)]),
                           (18, [(PRESS, 9, 2)]), (41, [(PRESS, 7, 2)]), (42, []), (49, []), (50, [(HAND, 7, 3)]),
                           (51, [(HAND, 7, 3)]), (52, []), (76, []), (LAST, [])]:
            with self.subTest(hour):
                self.assertEqual(plan.at(hour), told)
        self.assertEqual(plan.at(hour=50), [(HAND, 7, 3)])
        self.assertEqual([type(plan.at(0)), type(plan.at(0)[0])], [list, tuple])

    def test_in_the_order_of_the_places(self):
        plan = Plan(Bench(2, 2), [pressed(1, 5), pressed(2, 5), sewn(4, 5), sewn(3, 5)])
        self.assertEqual(plan.at(4), [(HAND, 3, 1), (("hand", 2), 4, 1), (PRESS, 1, 1), (("press", 2), 2, 1)])

    def test_against_a_count_hour_by_hour_and_where(self):
        for plan, counted in some_plans(9):
            for hour in range(plan.end() + 3):
                at = plan.at(hour)
                self.assertEqual(at, counted.at(hour))
                there = [(one.numbered(), plan.where(one.numbered(), hour)) for one in counted.jobs]
                self.assertEqual(sorted((number, step) for number, (word, step) in there if word == "at"),
                                 sorted((number, step) for place, number, step in at))

    def test_the_list_is_the_askers_own(self):
        plan = three()
        plan.at(0).clear()
        plan.at(LAST).append(None)
        self.assertEqual((plan.at(0), plan.at(LAST)), ([(HAND, 30, 1)], []))


class NextFree(unittest.TestCase):
    def test_between_and_behind(self):
        # The hand is taken from 0 to 18, 26 to 28, 38 to 40, 50 to 52.
        plan = three()
        for hours, since, told in [(1, 0, 18), (8, 0, 18), (9, 0, 28), (10, 0, 28), (11, 0, 52), (8, 18, 18),
                                   (8, 19, 28), (7, 19, 19), (1, 25, 25), (1, 26, 28), (2, 25, 28), (10, 29, 40),
                                   (10, 41, 52), (10 ** 6, 0, 52), (10 ** 6, 53, 53), (1, 52, 52), (1, 51, 52),
                                   (1, 10 ** 6, 10 ** 6), (10 ** 6, 10 ** 6, 10 ** 6)]:
            with self.subTest(f"{hours} since {since}"):
                self.assertEqual(plan.next_free(HAND, hours, since), told)

    def test_left_out_and_by_names(self):
        plan = three()
        self.assertEqual((plan.next_free(HAND), plan.next_free(PRESS)), (18, 0))
        self.assertEqual(plan.next_free(HAND, 9), 28)
        self.assertEqual(plan.next_free(HAND, since=19), 19)
        self.assertEqual(plan.next_free(since=19, hours=8, place=HAND), 28)
        self.assertEqual(plan.next_free(place=PRESS, hours=7), 42)
        # One hour is free ahead of it.
        self.assertEqual(Plan(Bench(), [sewn(7, 5, 1)]).next_free(HAND), 0)

    def test_of_a_place_that_has_nothing(self):
        plan = Plan(Bench(2, 2), three_jobs()[:1])
        for place in [("hand", 2), ("press", 2)]:
            self.assertEqual((plan.next_free(place), plan.next_free(place, 10 ** 6, 7), plan.busy(place)), (0, 7, 0))

    def test_against_a_count_hour_by_hour(self):
        for plan, counted in some_plans(10, 30):
            for place in counted.places:
                for hours in (1, 2, 3, 6, 20):
                    for since in range(0, plan.end() + 2, 3):
                        told = plan.next_free(place, hours, since)
                        self.assertEqual(told, counted.next_free(place, hours, since))


class Busy(unittest.TestCase):
    def test_told(self):
        plan = three()
        self.assertEqual((plan.busy(HAND), plan.busy(place=PRESS)), (24, 36))
        plan = Plan(Bench(2, 9), [Job(7, calf())])
        self.assertEqual([plan.busy(place) for place in (HAND, ("hand", 2), PRESS, ("press", 9))], [8, 0, 12, 0])

    def test_against_a_count_hour_by_hour(self):
        for plan, counted in some_plans(11):
            for place in counted.places:
                self.assertEqual(plan.busy(place), len(counted.hours[place]))


if __name__ == "__main__":
    unittest.main()
