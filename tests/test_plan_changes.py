"""Plans with a job more or fewer, and how two plans compare; a plan's text."""

import unittest

from anything import Agreeing, Hostile, Posing, anything
from asking import alike, bad, none_such, too_many
from benchwork import calf, job, of_jobs, pressed, sewn, some_plans, three_jobs
from bindbench.benches import Bench, Plan
from bindbench.styles import Job

HAND, PRESS = ("hand", 1), ("press", 1)


def numbers(plan):
    return [one.numbered() for one in plan.jobs()]


class WithJob(unittest.TestCase):
    def test_another_one(self):
        plan = Plan(Bench(2, 1), three_jobs())
        text = str(plan)
        other = plan.with_job(sewn(8, 3, 0, 100))
        self.assertEqual((numbers(other), numbers(plan), str(plan)), ([30, 9, 8, 7], [30, 9, 7], text))
        self.assertEqual(other, Plan(Bench(2, 1), three_jobs() + [sewn(8, 3, 0, 100)]))
        self.assertEqual(plan.with_job(job=sewn(8, 3, 0, 100)), other)

    def test_ahead_by_its_rank(self):
        plan = Plan(Bench(), [sewn(1, 5, 0, 10)])
        self.assertEqual(plan.with_job(sewn(2, 4, 0, 9)).rows(), [(2, 1, HAND, 0, 4), (1, 1, HAND, 4, 9)])
        self.assertEqual(plan.with_job(sewn(2, 4, 0, 11)).rows(), [(1, 1, HAND, 0, 5), (2, 1, HAND, 5, 9)])

    def test_of_anything(self):
        plan = Plan(Bench(), three_jobs())
        for called, thing in anything():
            with self.subTest(called):
                bad(self, "job", plan.with_job, thing)
        for thing in [calf(), Posing(Job), Agreeing(), Hostile(), [sewn(8, 1)], str(sewn(8, 1)), 8, plan]:
            bad(self, "job", plan.with_job, thing)
        self.assertEqual(plan, Plan(Bench(), three_jobs()))

    def test_a_number_that_is_there(self):
        plan = Plan(Bench(), three_jobs())
        for one in [three_jobs()[0], sewn(7, 1), sewn(9, 1, 0, 0, True)]:
            bad(self, "number", plan.with_job, one)
        self.assertEqual(plan, Plan(Bench(), three_jobs()))

    def test_too_many(self):
        plan = Plan(Bench(), of_jobs(39)).with_job(sewn(40, 1))
        self.assertEqual(len(plan), 40)
        too_many(self, 40, plan.with_job, sewn(41, 1))
        self.assertEqual((len(plan), plan), (40, Plan(Bench(), of_jobs(40))))
        self.assertEqual(len(plan.without_job(3).with_job(sewn(41, 1))), 40)

    def test_what_is_refused_first(self):
        plan = Plan(Bench(), of_jobs(40))
        bad(self, "job", plan.with_job, None)
        bad(self, "number", plan.with_job, sewn(40, 1))


class WithoutJob(unittest.TestCase):
    def test_another_one(self):
        plan = Plan(Bench(2, 1), three_jobs())
        text = str(plan)
        other = plan.without_job(9)
        self.assertEqual((numbers(other), numbers(plan), str(plan)), ([30, 7], [30, 9, 7], text))
        self.assertEqual((other, plan.without_job(number=9)), (Plan(Bench(2, 1), three_jobs()[::2]),) * 2)

    def test_down_to_none(self):
        plan = Plan(Bench(2, 1), three_jobs()).without_job(9).without_job(30).without_job(7)
        self.assertEqual((len(plan), plan.end(), plan.rows(), plan), (0, 0, [], Plan(Bench(2, 1))))
        none_such(self, "job", 7, plan.without_job, 7)

    def test_what_is_not_there(self):
        # Of anything else: in test_plan_questions, among the other questions that take a NUMBER.
        plan = Plan(Bench(), three_jobs())
        for number in (0, 8, 31, 10 ** 6):
            none_such(self, "job", number, plan.without_job, number)
        self.assertEqual(plan, Plan(Bench(), three_jobs()))


class MadeInAnotherWay(unittest.TestCase):
    def test_one_job_more_behind_the_other(self):
        for plan, counted in some_plans(20, 40):
            grown = Plan(counted.bench)
            for one in sorted(counted.jobs, key=lambda one: one.numbered()):
                grown = grown.with_job(one)
            self.assertEqual((grown, grown.rows(), str(grown)), (plan, counted.rows, str(plan)))

    def test_more_and_fewer(self):
        for plan, counted in some_plans(21, 40):
            other = plan.with_job(pressed(60, 7, 0, 5, True)).with_job(sewn(61, 3, 2, 9))
            for one in counted.jobs:
                other = other.without_job(one.numbered()).with_job(one)
            other = other.without_job(61).without_job(60)
            self.assertEqual((other, other.rows(), str(other)), (plan, counted.rows, str(plan)))
            self.assertEqual((other.moved(plan), plan.moved(other)), ([], []))


class Moved(unittest.TestCase):
    def test_by_a_job_more(self):
        plan = Plan(Bench(), [sewn(1, 5, 0, 10), sewn(2, 5, 0, 20), pressed(3, 5), sewn(4, 5, 20, 30)])
        other = plan.with_job(sewn(5, 1, 0, 0))
        self.assertEqual((plan.moved(other), other.moved(plan)), ([1, 2], [1, 2]))
        self.assertEqual(plan.moved(other=other), [1, 2])
        self.assertIs(type(plan.moved(other)), list)

    def test_only_what_both_have(self):
        one, other = Plan(Bench(), [sewn(1, 5), sewn(2, 5)]), Plan(Bench(), [sewn(3, 5), sewn(2, 6)])
        self.assertEqual((one.moved(other), other.moved(one)), ([2], [2]))
        self.assertEqual(Plan(Bench(), [sewn(1, 5)]).moved(Plan(Bench(), [sewn(2, 6)])), [])
        self.assertEqual((one.moved(one), one.moved(Plan(Bench())), Plan(Bench()).moved(one)), ([], [], []))

    def test_each_part_of_a_row_counts(self):
        plan = Plan(Bench(2, 1), [sewn(7, 5, 3)])
        for other in [sewn(7, 5, 4), sewn(7, 4, 3), sewn(7, 6, 3), pressed(7, 5, 3),
                      job(7, [("sew", 5, 0), ("sew", 1, 0)], 3), job(7, [("sew", 4, 0), ("sew", 1, 0)], 3)]:
            with self.subTest(str(other.of_style())):
                self.assertEqual(plan.moved(Plan(Bench(2, 1), [other])), [7])
        second = Plan(Bench(2, 1), [sewn(7, 5, 3), sewn(1, 5, 0, 5)])
        self.assertEqual((second.rows(7), plan.moved(second)), ([(7, 1, ("hand", 2), 3, 8)], [7]))

    def test_nothing_else_counts(self):
        plan = Plan(Bench(2, 1), [sewn(7, 5, 3, 50)])
        for other in [sewn(7, 5, 3, 60), sewn(7, 5, 3, 50, True), job(7, [("glue", 5, 9)], 3, 50)]:
            self.assertEqual(plan.moved(Plan(Bench(1, 3), [other])), [])

    def test_rising_by_number_not_by_rank(self):
        jobs = [sewn(9, 2, 0, 1), sewn(10, 2, 0, 2), sewn(8, 2, 0, 3), sewn(100, 2, 0, 4)]
        plan = Plan(Bench(), jobs)
        self.assertEqual(plan.moved(plan.with_job(sewn(1, 1, 0, 0))), [8, 9, 10, 100])

    def test_of_anything(self):
        plan = Plan(Bench(), three_jobs())
        for called, thing in anything():
            with self.subTest(called):
                bad(self, "plan", plan.moved, thing)
        for thing in [Posing(Plan), Agreeing(), Hostile(), str(plan), plan.rows(), Bench(), Plan]:
            bad(self, "plan", plan.moved, thing)

    def test_the_list_is_the_askers_own(self):
        one, other = Plan(Bench(), [sewn(1, 5)]), Plan(Bench(), [sewn(1, 6)])
        one.moved(other).clear()
        self.assertEqual(one.moved(other), [1])


class Compared(unittest.TestCase):
    def test_alike_in_whatever_order_they_came(self):
        for jobs in (three_jobs(), three_jobs()[::-1], tuple(three_jobs()[1:] + three_jobs()[:1])):
            alike(self, Plan(Bench(), jobs), Plan(Bench(1, 1), three_jobs()), True)
        alike(self, Plan(Bench()), Plan(Bench(), []), True)

    def test_unlike(self):
        plan = Plan(Bench(), three_jobs())
        for other in [Plan(Bench(2, 1), three_jobs()), Plan(Bench(1, 2), three_jobs()), plan.without_job(7),
                      plan.with_job(sewn(8, 1)), Plan(Bench()), Plan(Bench(), [one.hastened() for one in three_jobs()]),
                      plan.without_job(7).with_job(Job(7, calf(), 10, 201)),
                      plan.without_job(7).with_job(Job(7, calf().left_out(1), 10, 200)),
                      plan.without_job(7).with_job(Job(8, calf(), 10, 200))]:
            alike(self, plan, other, False)

    def test_jobs_count_not_only_what_comes_of_them(self):
        one, other = Plan(Bench(), [sewn(7, 5, 0, 50)]), Plan(Bench(), [sewn(7, 5, 0, 60)])
        self.assertEqual(one.rows(), other.rows())
        alike(self, one, other, False)

    def test_with_what_is_no_plan(self):
        plan = Plan(Bench(), three_jobs())
        for called, thing in anything():
            with self.subTest(called):
                self.assertIs(plan == thing, False)
                self.assertIs(plan != thing, True)
        for thing in [Posing(Plan), Agreeing(), Hostile(), str(plan), plan.rows(), plan.jobs(), Bench(), Plan]:
            self.assertIs(plan == thing, False)
            self.assertIs(plan != thing, True)
        self.assertIs(Plan(Bench()) == [], False)


class Written(unittest.TestCase):
    def test_text(self):
        self.assertEqual(str(Plan(Bench(), three_jobs())),
                         "hand 1 30 1 0 6 9 1 6 12 7 1 12 18 30 3 26 28 9 3 38 40 7 3 50 52\n"
                         "press 1 30 2 6 18 9 2 18 30 7 2 30 42")

    def test_a_row_for_each_place(self):
        self.assertEqual(str(Plan(Bench(3, 2))), "hand 1\nhand 2\nhand 3\npress 1\npress 2")
        self.assertEqual(str(Plan(Bench(2, 1), [Job(7, calf(), 10, 200)])), "hand 1 7 1 10 16 7 3 36 38\nhand 2\n"
                                                                            "press 1 7 2 16 28")

    def test_rising_by_begin_not_as_put_in(self):
        plan = Plan(Bench(), [sewn(7, 4, 9, 13), sewn(9, 2, 3, 14), sewn(8, 3, 0, 15), sewn(6, 1, 0, 16)])
        self.assertEqual(str(plan), "hand 1 8 1 0 3 9 1 3 5 6 1 5 6 7 1 9 13\npress 1")

    def test_of_its_rows(self):
        for plan, counted in some_plans(22, 30):
            rows = []
            for kind, number in counted.places:
                there = sorted((row for row in counted.rows if row[2] == (kind, number)), key=lambda row: row[3])
                rows.append(" ".join([f"{kind} {number}"] + [f"{row[0]} {row[1]} {row[3]} {row[4]}" for row in there]))
            self.assertEqual(str(plan), "\n".join(rows))


if __name__ == "__main__":
    unittest.main()
