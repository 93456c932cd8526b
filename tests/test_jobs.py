import unittest

from anything import Agreeing, Hostile, Posing, anything
from asking import alike, bad
from bindbench.styles import Job, Style, by_rank, by_style, first_of

LAST_HOUR = 10 ** 6


def calf():
    return Style("calf", [("sew", 6, 0), ("press", 12, 8), ("glue", 2, 24)])


def cloth():
    return Style("cloth", [("cover", 3, 1)])


def told(job):
    return (job.numbered(), job.of_style(), job.brought_at(), job.due_at(), job.in_haste())


class Made(unittest.TestCase):
    def test_all_handed_in(self):
        self.assertEqual(told(Job(7, calf(), 10, 200, True)), (7, calf(), 10, 200, True))
        self.assertEqual(told(Job(7, calf(), 10, 200, False)), (7, calf(), 10, 200, False))

    def test_what_it_tells_is_of_its_kind(self):
        job = Job(7, calf(), 10, 200, True)
        self.assertEqual([type(thing) for thing in told(job)], [int, Style, int, int, bool])

    def test_by_names_in_another_order(self):
        job = Job(haste=True, due=200, brought=10, style=calf(), number=7)
        self.assertEqual(told(job), (7, calf(), 10, 200, True))

    def test_left_out(self):
        self.assertEqual(told(Job(7, calf())), (7, calf(), 0, 52, False))
        self.assertEqual(told(Job(7, calf(), 10)), (7, calf(), 10, 62, False))
        self.assertEqual(told(Job(7, calf(), 10, None)), (7, calf(), 10, 62, False))
        self.assertEqual(told(Job(7, calf(), due=200)), (7, calf(), 0, 200, False))
        self.assertEqual(told(Job(7, calf(), haste=True)), (7, calf(), 0, 52, True))

    def test_numbers(self):
        for number in [1, 99999]:
            self.assertEqual(Job(number, calf()).numbered(), number)
        for number in [-1, 0, 100000]:
            bad(self, "number", Job, number, calf())

    def test_brought(self):
        for brought in [0, 1, LAST_HOUR]:
            self.assertEqual(Job(7, calf(), brought, LAST_HOUR).brought_at(), brought)
        for brought in [-1, LAST_HOUR + 1]:
            bad(self, "brought", Job, 7, calf(), brought)
            bad(self, "brought", Job, 7, calf(), brought, LAST_HOUR + 2)

    def test_due(self):
        for due in [10, 11, LAST_HOUR]:
            self.assertEqual(Job(7, calf(), 10, due).due_at(), due)
        self.assertEqual(Job(7, calf(), 0, 0).due_at(), 0)
        self.assertEqual(Job(7, calf(), LAST_HOUR, LAST_HOUR).due_at(), LAST_HOUR)
        for due in [-1, 0, 9, LAST_HOUR + 1]:
            bad(self, "due", Job, 7, calf(), 10, due)

    def test_due_left_out_at_the_last_hour_and_beyond(self):
        self.assertEqual(Job(7, calf(), LAST_HOUR - 52).due_at(), LAST_HOUR)
        bad(self, "due", Job, 7, calf(), LAST_HOUR - 51)
        bad(self, "due", Job, 7, calf(), LAST_HOUR)
        bad(self, "due", Job, 7, calf(), LAST_HOUR, None)
        self.assertEqual(Job(7, calf(), LAST_HOUR - 51, LAST_HOUR).due_at(), LAST_HOUR)

    def test_of_anything(self):
        for called, thing in anything(but=["one", "two"]):
            with self.subTest(called):
                bad(self, "number", Job, thing, calf())
        for called, thing in anything():
            with self.subTest(called):
                bad(self, "style", Job, 7, thing)
        for called, thing in anything(but=["zero", "one", "two"]):
            with self.subTest(called):
                bad(self, "brought", Job, 7, calf(), thing)
        for called, thing in anything(but=["None", "zero", "one", "two"]):
            with self.subTest(called):
                bad(self, "due", Job, 7, calf(), 0, thing)
        for called, thing in anything(but=["True", "False"]):
            with self.subTest(called):
                bad(self, "haste", Job, 7, calf(), 0, 0, thing)

    def test_a_style_is_a_style(self):
        for thing in [Posing(Style), Job(1, calf()), str(calf()), "calf", Style]:
            bad(self, "style", Job, 7, thing)

    def test_what_is_refused_first(self):
        bad(self, "number", Job, 0, None, -1, -1, None)
        bad(self, "style", Job, 1, None, -1, -1, None)
        bad(self, "brought", Job, 1, calf(), -1, -1, None)
        bad(self, "due", Job, 1, calf(), 0, -1, None)
        bad(self, "haste", Job, 1, calf(), 0, 0, None)
        bad(self, "brought", Job, 1, calf(), LAST_HOUR + 1, None, None)
        bad(self, "due", Job, 1, calf(), LAST_HOUR, None, None)
        bad(self, "number", Job, haste=None, style=None, number=None)

    def test_no_len(self):
        self.assertRaises(TypeError, len, Job(7, calf()))
        self.assertIs(bool(Job(7, calf(), 0, 0)), True)


class Rank(unittest.TestCase):
    def test_told(self):
        self.assertEqual(Job(7, calf(), 10, 200).rank(), (1, 200, 10, 7))
        self.assertEqual(Job(7, calf(), 10, 200, True).rank(), (0, 200, 10, 7))
        self.assertEqual(Job(7, calf()).rank(), (1, 52, 0, 7))
        rank = Job(7, calf(), 10, 200, True).rank()
        self.assertEqual([type(rank)] + [type(word) for word in rank], [tuple, int, int, int, int])

    def test_room(self):
        self.assertEqual(Job(7, calf(), 10, 200).room(), 138)
        self.assertEqual(Job(7, calf(), 10).room(), 0)
        self.assertEqual(Job(7, calf(), 10, 61).room(), -1)
        self.assertEqual(Job(7, calf(), 10, 10).room(), -52)
        self.assertEqual(Job(7, calf(), 0, LAST_HOUR).room(), LAST_HOUR - 52)


class Hastened(unittest.TestCase):
    def test_with_and_without(self):
        for had in (True, False):
            job = Job(7, calf(), 10, 200, had)
            self.assertEqual(told(job.hastened()), (7, calf(), 10, 200, True))
            self.assertEqual(told(job.hastened(True)), (7, calf(), 10, 200, True))
            self.assertEqual(told(job.hastened(haste=False)), (7, calf(), 10, 200, False))
            self.assertEqual(told(job), (7, calf(), 10, 200, had))

    def test_another_one(self):
        job = Job(7, calf(), haste=True)
        self.assertIsNot(job.hastened(), job)
        self.assertEqual(job.hastened(), job)

    def test_of_anything(self):
        job = Job(7, calf(), 10, 200)
        for called, thing in anything(but=["True", "False"]):
            with self.subTest(called):
                bad(self, "haste", job.hastened, thing)
        self.assertEqual(told(job), (7, calf(), 10, 200, False))


class Compared(unittest.TestCase):
    def test_alike(self):
        job = Job(7, calf(), 0, 52)
        alike(self, job, job, True)
        alike(self, job, Job(7, calf()), True)
        alike(self, job, Job(7, calf(), 0, 52, True).hastened(False), True)

    def test_unlike(self):
        for other in [Job(8, calf(), 0, 52), Job(7, cloth(), 0, 52), Job(7, calf(), 1, 52), Job(7, calf(), 0, 53),
                      Job(7, calf(), 0, 52, True), Job(7, calf().left_out(1), 0, 52)]:
            with self.subTest(str(other)):
                alike(self, Job(7, calf(), 0, 52), other, False)

    def test_with_what_is_no_job(self):
        job = Job(7, calf(), 10, 200)
        for called, thing in anything():
            with self.subTest(called):
                self.assertIs(job == thing, False)
                self.assertIs(job != thing, True)
        for thing in [calf(), Posing(Job), Agreeing(), Hostile(), str(job), job.rank(), 7]:
            self.assertIs(job == thing, False)
            self.assertIs(job != thing, True)


class Written(unittest.TestCase):
    def test_text(self):
        self.assertEqual(str(Job(7, calf(), 10, 200)), "job 7 calf 10 200")
        self.assertEqual(str(Job(7, calf(), 10, 200, True)), "job 7 calf 10 200 haste")
        self.assertEqual(str(Job(99999, cloth())), "job 99999 cloth 0 4")

    def test_repr(self):
        self.assertEqual(repr(Job(7, calf(), 10, 200, True)), "Job(7, calf)")
        self.assertEqual(repr([Job(99999, cloth())]), "[Job(99999, cloth)]")


class ByRank(unittest.TestCase):
    def jobs(self):
        return [Job(3, calf(), 0, 90), Job(2, cloth(), 5, 90), Job(1, calf(), 5, 90), Job(9, calf(), 0, 99, True),
                Job(4, cloth(), 0, 89), Job(8, cloth(), 50, 98, True)]

    def test_rising(self):
        jobs = self.jobs()
        for handed in (jobs, tuple(jobs), jobs[::-1]):
            self.assertEqual([job.numbered() for job in by_rank(handed)], [8, 9, 4, 3, 1, 2])
            self.assertIs(type(by_rank(handed)), list)
            self.assertEqual(first_of(handed).numbered(), 8)

    def test_each_part_of_a_rank_counts(self):
        late, early = Job(1, calf(), 0, 90), Job(2, calf(), 1, 89)
        self.assertEqual(by_rank([late, early]), [early, late])
        self.assertEqual(first_of([late, early]), early)
        late, early = Job(1, calf(), 1, 90), Job(2, calf(), 0, 90)
        self.assertEqual(by_rank([late, early]), [early, late])
        late, early = Job(10, calf(), 0, 90), Job(9, calf(), 0, 90)
        self.assertEqual(by_rank([late, early]), [early, late])
        late, early = Job(1, calf(), 0, 0), Job(2, calf(), 9, 90, True)
        self.assertEqual(by_rank([late, early]), [early, late])

    def test_equal_ranks_as_they_stand(self):
        one, other, ahead = Job(5, calf(), 0, 90), Job(5, cloth(), 0, 90), Job(4, calf(), 0, 90)
        self.assertEqual([job.of_style().named() for job in by_rank([one, other, ahead])], ["calf", "calf", "cloth"])
        self.assertEqual([job.of_style().named() for job in by_rank([other, one, ahead])], ["calf", "cloth", "calf"])
        self.assertIs(first_of([one, other]), one)
        self.assertIs(first_of([other, one]), other)
        self.assertIs(first_of((other, one, Job(6, calf(), 0, 90))), other)

    def test_the_same_twice(self):
        job = Job(5, calf())
        self.assertEqual(by_rank((job, job)), [job, job])

    def test_of_none(self):
        for none in ([], ()):
            self.assertEqual(by_rank(none), [])
            self.assertIsNone(first_of(none))
            self.assertEqual(by_style(none), [])

    def test_by_names(self):
        jobs = self.jobs()
        self.assertEqual(by_rank(jobs=jobs), by_rank(jobs))
        self.assertEqual(first_of(jobs=jobs), first_of(jobs))
        self.assertEqual(by_style(jobs=jobs), by_style(jobs))

    def test_the_list_stays_as_it_was(self):
        jobs = self.jobs()
        by_rank(jobs), first_of(jobs), by_style(jobs)
        self.assertEqual([job.numbered() for job in jobs], [3, 2, 1, 9, 4, 8])
        by_rank(jobs).clear()
        by_style(jobs).clear()
        self.assertEqual([job.numbered() for job in jobs], [3, 2, 1, 9, 4, 8])

    def test_changing_the_list_later_changes_nothing(self):
        jobs = self.jobs()
        ranked, styled = by_rank(jobs), by_style(jobs)
        jobs.clear()
        self.assertEqual([job.numbered() for job in ranked], [8, 9, 4, 3, 1, 2])
        self.assertEqual(styled, [("calf", [1, 3, 9]), ("cloth", [2, 4, 8])])

    def test_another_list_even_where_it_rises_already(self):
        jobs = by_rank(self.jobs())
        self.assertIsNot(by_rank(jobs), jobs)


class ByStyle(unittest.TestCase):
    def test_rising_by_name(self):
        jobs = [Job(10, cloth()), Job(7, calf()), Job(9, cloth()), Job(100, Style("boards", [("sew", 1, 0)]))]
        told = by_style(jobs)
        self.assertEqual(told, [("boards", [100]), ("calf", [7]), ("cloth", [9, 10])])
        self.assertEqual(by_style(tuple(jobs)), told)
        self.assertEqual([type(told), type(told[0]), type(told[0][1])], [list, tuple, list])

    def test_several_styles_of_one_name(self):
        other = Style("calf", [("letter", 1, 0)])
        self.assertEqual(by_style([Job(9, calf()), Job(2, other), Job(5, calf())]), [("calf", [2, 5, 9])])

    def test_each_number_once(self):
        jobs = [Job(9, calf()), Job(9, calf()), Job(9, calf(), 3), Job(2, calf()), Job(9, cloth())]
        self.assertEqual(by_style(jobs), [("calf", [2, 9]), ("cloth", [9])])

    def test_the_lists_are_the_askers_own(self):
        jobs = [Job(9, calf()), Job(2, calf())]
        told = by_style(jobs)
        told[0][1].append(5)
        self.assertEqual(by_style(jobs), [("calf", [2, 9])])


if __name__ == "__main__":
    unittest.main()
