"""Of what a plan is made, and when and where it puts each step."""

import unittest

from anything import Agreeing, Hostile, Posing, anything
from asking import bad
from benchwork import calf, job, of_jobs, pressed, sewn, some_plans, three_jobs
from bindbench.benches import Bench, Plan
from bindbench.styles import Job, Style

HAND, PRESS = ("hand", 1), ("press", 1)


def begins(plan):
    """The place and the begin of each row."""
    return [(number, place, begin) for number, _, place, begin, _ in plan.rows()]


class Made(unittest.TestCase):
    def test_of_a_list_and_of_a_tuple(self):
        for jobs in (three_jobs(), tuple(three_jobs())):
            self.assertEqual([one.numbered() for one in Plan(Bench(), jobs).jobs()], [30, 9, 7])

    def test_by_names_in_another_order(self):
        plan = Plan(jobs=three_jobs(), bench=Bench(2, 2))
        self.assertEqual(plan, Plan(Bench(2, 2), three_jobs()))

    def test_of_none(self):
        for plan in (Plan(Bench(2, 1)), Plan(Bench(2, 1), None), Plan(Bench(2, 1), []), Plan(Bench(2, 1), ()),
                     Plan(bench=Bench(2, 1))):
            self.assertEqual((plan.jobs(), plan.rows(), plan.at(0), len(plan)), ([], [], [], 0))
            self.assertEqual((plan.end(), plan.late(), str(plan)), (0, 0, "hand 1\nhand 2\npress 1"))
            self.assertIs(bool(plan), False)

    def test_of_how_many(self):
        for many in (1, 2, 39, 40):
            plan = Plan(Bench(), of_jobs(many))
            self.assertEqual((len(plan), len(plan.jobs()), len(plan.rows())), (many, many, many))
            self.assertIs(bool(plan), True)
        for many in (41, 42, 1000):
            bad(self, "jobs", Plan, Bench(), of_jobs(many))
            bad(self, "jobs", Plan, Bench(), tuple(of_jobs(many)))

    def test_two_of_one_number(self):
        for jobs in [[sewn(7, 1), sewn(7, 2)], [sewn(7, 1), sewn(8, 1), pressed(7, 1, 5)], [sewn(7, 1)] * 2,
                     (sewn(7, 1), sewn(7, 1, haste=True))]:
            bad(self, "jobs", Plan, Bench(), jobs)
        bad(self, "jobs", Plan, Bench(), of_jobs(39) + [sewn(39, 1)])

    def test_bench_of_anything(self):
        for called, thing in anything():
            with self.subTest(called):
                bad(self, "bench", Plan, thing, [])
                bad(self, "bench", Plan, thing)
        for thing in [Posing(Bench), Bench, "hands 1 presses 1", Bench().places(), Plan(Bench())]:
            bad(self, "bench", Plan, thing, [])

    def test_jobs_of_anything(self):
        for called, thing in anything(but=["None", "an empty list", "an empty tuple"]):
            with self.subTest(called):
                bad(self, "jobs", Plan, Bench(), thing)
        for thing in [sewn(7, 1), {7: sewn(7, 1)}, Plan(Bench()), iter([sewn(7, 1)]), str(sewn(7, 1))]:
            bad(self, "jobs", Plan, Bench(), thing)

    def test_of_anything_among_the_jobs(self):
        for called, thing in anything():
            with self.subTest(called):
                bad(self, "jobs", Plan, Bench(), [thing])
                bad(self, "jobs", Plan, Bench(), [sewn(7, 1), thing])
                bad(self, "jobs", Plan, Bench(), (thing, sewn(7, 1)))
        for thing in [calf(), Posing(Job), Agreeing(), Hostile(), [sewn(8, 1)], Job]:
            bad(self, "jobs", Plan, Bench(), [sewn(7, 1), thing])

    def test_what_is_refused_first(self):
        for called, thing in anything(but=["None", "an empty list", "an empty tuple"]):
            with self.subTest(called):
                bad(self, "bench", Plan, thing, thing)
        bad(self, "bench", Plan, jobs=1, bench=1)

    def test_what_is_handed_in_stays_as_it_was(self):
        bench, jobs = Bench(2, 1), three_jobs()
        plan = Plan(bench, jobs)
        plan.with_job(sewn(8, 3)).without_job(7)
        self.assertEqual([one.numbered() for one in jobs], [7, 9, 30])
        self.assertEqual(jobs, three_jobs())
        self.assertEqual(bench, Bench(2, 1))
        twice = [sewn(7, 1), sewn(7, 1)]
        bad(self, "jobs", Plan, Bench(), twice)
        self.assertEqual(twice, [sewn(7, 1), sewn(7, 1)])

    def test_changing_it_later_changes_nothing(self):
        jobs = three_jobs()
        plan = Plan(Bench(), jobs)
        text = str(plan)
        jobs[0] = sewn(70, 9)
        jobs.append(sewn(71, 9))
        self.assertEqual((str(plan), len(plan), plan), (text, 3, Plan(Bench(), three_jobs())))
        jobs.clear()
        self.assertEqual([one.numbered() for one in plan.jobs()], [30, 9, 7])


class PutIn(unittest.TestCase):
    def test_steps_of_one_job_with_their_rests(self):
        plan = Plan(Bench(), [Job(7, calf(), 10, 200)])
        self.assertEqual(plan.rows(), [(7, 1, HAND, 10, 16), (7, 2, PRESS, 16, 28), (7, 3, HAND, 36, 38)])
        self.assertEqual([plan.ready(7, step) for step in (1, 2, 3)], [10, 16, 36])
        self.assertEqual(plan.done(7), 62)
        self.assertEqual([type(row) for row in plan.rows()], [tuple] * 3)
        self.assertEqual([type(word) for word in plan.rows()[0]], [int, int, tuple, int, int])

    def test_three_jobs_on_the_least_bench(self):
        plan = Plan(Bench(), three_jobs())
        self.assertEqual(plan.rows(), [
            (30, 1, HAND, 0, 6), (30, 2, PRESS, 6, 18), (30, 3, HAND, 26, 28),
            (9, 1, HAND, 6, 12), (9, 2, PRESS, 18, 30), (9, 3, HAND, 38, 40),
            (7, 1, HAND, 12, 18), (7, 2, PRESS, 30, 42), (7, 3, HAND, 50, 52)])
        self.assertEqual([plan.done(number) for number in (30, 9, 7)], [52, 64, 76])

    def test_each_work_at_its_kind_of_place(self):
        for work, place in [("sew", HAND), ("glue", HAND), ("cover", HAND), ("letter", HAND), ("press", PRESS)]:
            self.assertEqual(Plan(Bench(), [job(7, [(work, 3, 1)])]).rows(), [(7, 1, place, 0, 3)])

    def test_a_rest_leaves_the_place_free(self):
        plan = Plan(Bench(), [job(7, [("sew", 2, 5), ("sew", 1, 0)]), job(9, [("glue", 5, 0)])])
        self.assertEqual(plan.rows(), [(7, 1, HAND, 0, 2), (7, 2, HAND, 7, 8), (9, 1, HAND, 2, 7)])

    def test_between_others(self):
        # One hand has 0 to 4 and 17 to 22: thirteen hours are free between.
        ahead = job(7, [("sew", 4, 13), ("sew", 5, 0)], due=1)
        for hours, brought, begin in [(13, 0, 4), (13, 4, 4), (12, 0, 4), (12, 5, 5), (1, 16, 16), (1, 0, 4),
                                      (14, 0, 22), (13, 5, 22), (2, 16, 22), (1, 17, 22), (3, 21, 22), (3, 22, 22),
                                      (3, 23, 23)]:
            with self.subTest(f"{hours} from {brought}"):
                plan = Plan(Bench(), [ahead, sewn(9, hours, brought)])
                self.assertEqual(plan.rows(9), [(9, 1, HAND, begin, begin + hours)])
                self.assertEqual([row[3:] for row in plan.rows(7)], [(0, 4), (17, 22)])

    def test_ahead_of_others(self):
        plan = Plan(Bench(), [sewn(7, 4, 5, 9), sewn(8, 5, 0), sewn(9, 1, 0)])
        self.assertEqual(begins(plan), [(7, HAND, 5), (8, HAND, 0), (9, HAND, 9)])
        plan = Plan(Bench(), [sewn(7, 4, 5, 9), sewn(8, 6, 0), sewn(9, 1, 0)])
        self.assertEqual(begins(plan), [(7, HAND, 5), (8, HAND, 9), (9, HAND, 0)])

    def test_first_of_several_gaps_that_is_long_enough(self):
        ahead = job(1, [("sew", 1, 2), ("sew", 1, 3), ("sew", 1, 5), ("sew", 1, 3), ("sew", 1, 0)], due=1)
        self.assertEqual([row[3] for row in Plan(Bench(), [ahead]).rows()], [0, 3, 7, 13, 17])
        for hours, begin in [(1, 1), (2, 1), (3, 4), (4, 8), (5, 8), (6, 18)]:
            self.assertEqual(Plan(Bench(), [ahead, sewn(2, hours)]).rows(2)[0][3], begin)

    def test_of_several_places_the_least_hour_then_the_least_number(self):
        plan = Plan(Bench(3, 1), [sewn(1, 5), sewn(2, 3), sewn(3, 4), sewn(4, 1), sewn(5, 1), sewn(6, 1), sewn(7, 1)])
        self.assertEqual(begins(plan), [
            (1, HAND, 0), (2, ("hand", 2), 0), (3, ("hand", 3), 0), (4, ("hand", 2), 3), (5, ("hand", 2), 4),
            (6, ("hand", 3), 4), (7, HAND, 5)])
        plan = Plan(Bench(1, 2), [pressed(1, 5), pressed(2, 5), pressed(3, 2), pressed(4, 1)])
        self.assertEqual(begins(plan), [(1, PRESS, 0), (2, ("press", 2), 0), (3, PRESS, 5), (4, ("press", 2), 5)])

    def test_what_is_put_in_is_not_moved(self):
        plan = Plan(Bench(), [sewn(1, 5, 3, 8), sewn(2, 4, 0, 9), sewn(3, 3, 0, 10)])
        self.assertEqual(begins(plan), [(1, HAND, 3), (2, HAND, 8), (3, HAND, 0)])

    def test_a_late_job_is_put_in_all_the_same(self):
        plan = Plan(Bench(), [sewn(1, 5, 0, 0), sewn(2, 5, 0, 0)])
        self.assertEqual([(plan.done(k), plan.late(k)) for k in (1, 2)], [(5, 5), (10, 10)])

    def test_at_the_last_hours_of_all(self):
        steps = [("press", 240, 0)] * 12
        plan = Plan(Bench(9, 1), [job(number, steps, 10 ** 6) for number in range(1, 41)])
        self.assertEqual([row[3] for row in plan.rows()], [10 ** 6 + 240 * k for k in range(480)])
        self.assertEqual(plan.end(), 10 ** 6 + 40 * 12 * 240)
        self.assertEqual((plan.busy(PRESS), plan.late(40)), (115200, 115200))

    def test_against_a_count_hour_by_hour(self):
        for plan, counted in some_plans(1, 120):
            self.assertEqual(plan.rows(), counted.rows)
            self.assertEqual(plan.jobs(), counted.jobs)

    def test_no_place_has_two_and_none_could_begin_sooner(self):
        for plan, counted in some_plans(2):
            taken = {}
            for number, step, place, begin, end in plan.rows():
                hours = [one for one in plan.jobs() if one.numbered() == number][0].of_style().step(step)[1]
                self.assertEqual(end - begin, hours)
                for other in counted.places:
                    if other[0] == place[0]:
                        for sooner in range(plan.ready(number, step), begin):
                            self.assertTrue(any((other, hour) in taken for hour in range(sooner, sooner + hours)))
                for hour in range(begin, end):
                    self.assertNotIn((place, hour), taken)
                    taken[place, hour] = number


class Ranked(unittest.TestCase):
    def test_rising_by_rank(self):
        jobs = [sewn(1, 1, 5, 20), sewn(2, 1, 4, 20), sewn(3, 1, 9, 19), sewn(4, 1, 9, 30, True), sewn(6, 1, 5, 20),
                sewn(5, 1, 5, 20), sewn(8, 1, 0, 29, True)]
        for told in (jobs, jobs[::-1], jobs[3:] + jobs[:3]):
            plan = Plan(Bench(), told)
            self.assertEqual([one.numbered() for one in plan.jobs()], [8, 4, 3, 2, 1, 5, 6])
            self.assertEqual([row[0] for row in plan.rows()], [8, 4, 3, 2, 1, 5, 6])
            self.assertIs(type(plan.jobs()), list)

    def test_with_haste_and_without(self):
        jobs = [sewn(1, 5, 0, 10), sewn(2, 5, 0, 20)]
        self.assertEqual(begins(Plan(Bench(), jobs)), [(1, HAND, 0), (2, HAND, 5)])
        jobs[1] = jobs[1].hastened()
        self.assertEqual(begins(Plan(Bench(), jobs)), [(2, HAND, 0), (1, HAND, 5)])
        jobs[0] = jobs[0].hastened()
        self.assertEqual(begins(Plan(Bench(), jobs)), [(1, HAND, 0), (2, HAND, 5)])

    def test_told_in_another_order(self):
        for plan, counted in some_plans(3, 30):
            jobs = plan.jobs()
            for other in (jobs[::-1], jobs[1:] + jobs[:1], sorted(jobs, key=lambda one: one.numbered())):
                self.assertEqual(Plan(counted.bench, other).rows(), counted.rows)


class Done(unittest.TestCase):
    def test_done_behind_the_last_rest(self):
        plan = Plan(Bench(), [job(7, [("sew", 3, 4)], 10, 17), job(9, [("sew", 3, 0)], 10, 18)])
        self.assertEqual((plan.done(7), plan.done(number=9)), (17, 16))
        self.assertEqual((plan.ready(7, 1), plan.ready(step=1, number=9)), (10, 10))

    def test_late(self):
        # DONE at 17 of all of them.
        for due, late in [(10, 7), (16, 1), (17, 0), (18, 0), (10 ** 6, 0)]:
            plan = Plan(Bench(), [job(7, [("sew", 3, 4)], 10, due)])
            self.assertEqual((plan.late(7), plan.late(number=7), plan.late(), plan.late(None)), (late,) * 4)

    def test_late_of_all_together(self):
        plan = Plan(Bench(), [sewn(1, 5, 0, 3), sewn(2, 5, 0, 100), sewn(3, 5, 0, 4)])
        self.assertEqual([plan.late(number) for number in (1, 3, 2)], [2, 6, 0])
        self.assertEqual(plan.late(), 8)

    def test_end(self):
        plan = Plan(Bench(2, 1), [job(7, [("sew", 3, 40)]), sewn(9, 20), sewn(8, 30)])
        self.assertEqual(plan.end(), 43)
        self.assertEqual(plan.without_job(7).end(), 30)

    def test_against_a_count_hour_by_hour(self):
        for plan, counted in some_plans(4):
            self.assertEqual(plan.end(), max(counted.done.values()))
            late = {one.numbered(): max(0, counted.done[one.numbered()] - one.due_at()) for one in counted.jobs}
            self.assertEqual(plan.late(), sum(late.values()))
            for number in counted.done:
                self.assertEqual((plan.done(number), plan.late(number)), (counted.done[number], late[number]))
            for number, step in counted.ready:
                self.assertEqual(plan.ready(number, step), counted.ready[number, step])


class Rows(unittest.TestCase):
    def test_of_one_job(self):
        plan = Plan(Bench(), three_jobs())
        self.assertEqual(plan.rows(9), [(9, 1, HAND, 6, 12), (9, 2, PRESS, 18, 30), (9, 3, HAND, 38, 40)])
        self.assertEqual(plan.rows(number=9), plan.rows(9))
        self.assertEqual(plan.rows(30) + plan.rows(9) + plan.rows(7), plan.rows())
        self.assertEqual(plan.rows(None), plan.rows())

    def test_the_lists_are_the_askers_own(self):
        plan = Plan(Bench(), three_jobs())
        rows, jobs, own = plan.rows(), plan.jobs(), plan.rows(7)
        text, again = str(plan), plan.rows()
        plan.rows().clear()
        plan.rows(7).append(None)
        plan.jobs().reverse()
        rows[0] = None
        jobs.pop()
        own.clear()
        self.assertEqual((plan.rows(), str(plan), len(plan)), (again, text, 3))
        self.assertEqual(plan.rows(7), [row for row in again if row[0] == 7])
        self.assertEqual([one.numbered() for one in plan.jobs()], [30, 9, 7])

    def test_what_was_told_stays_when_more_is_asked(self):
        plan = Plan(Bench(), three_jobs())
        rows = plan.rows()
        plan.with_job(sewn(1, 50, 0, 0, True)), plan.rows(7), plan.without_job(9)
        self.assertEqual(rows, plan.rows())


class Styles(unittest.TestCase):
    def test_jobs_of_unlike_styles_of_one_name(self):
        plan = Plan(Bench(), [Job(1, Style("calf", [("sew", 2, 0)])), Job(2, Style("calf", [("sew", 3, 0)]))])
        self.assertEqual([row[3:] for row in plan.rows()], [(0, 2), (2, 5)])


if __name__ == "__main__":
    unittest.main()
