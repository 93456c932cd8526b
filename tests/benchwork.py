"""Benches and jobs for tests, and a plan of them that is made by counting hour by hour."""

import random

from bindbench.benches import Bench, Plan
from bindbench.styles import Job, Style

SEW, PRESS, GLUE = ("sew", 6, 0), ("press", 12, 8), ("glue", 2, 24)


def calf():
    return Style("calf", [SEW, PRESS, GLUE])


def job(number, steps, brought=0, due=10 ** 6, haste=False):
    return Job(number, Style("calf", steps), brought, due, haste)


def sewn(number, hours, brought=0, due=10 ** 6, haste=False):
    return job(number, [("sew", hours, 0)], brought, due, haste)


def pressed(number, hours, brought=0, due=10 ** 6, haste=False):
    return job(number, [("press", hours, 0)], brought, due, haste)


def three_jobs():
    """One of them in haste, so that not the first to be due goes ahead."""
    return [Job(7, calf(), 10, 200), Job(9, calf(), 3, 90), Job(30, calf(), 0, 300, True)]


def of_jobs(many):
    return [sewn(number, 1) for number in range(1, many + 1)]


def some_jobs(dice, many):
    """Jobs that come close together, with short and long steps and rests, so that they are in each other's way."""
    jobs = []
    for number in dice.sample(range(1, 60), many):
        steps = [(dice.choice(["sew", "glue", "press", "press", "cover", "letter"]), dice.choice([1, 2, 3, 5, 8]),
                  dice.choice([0, 0, 1, 4, 9])) for _ in range(dice.randint(1, 6))]
        brought = dice.randint(0, 12)
        jobs.append(job(number, steps, brought, brought + dice.randint(0, 40), dice.random() < 0.3))
    return jobs


def some_plans(seed, many=60, most=9):
    """So many (PLAN, Counted) of the same bench and jobs, always the same ones of a seed."""
    dice = random.Random(seed)
    for _ in range(many):
        hands, presses = dice.choice([(1, 1), (1, 1), (2, 1), (1, 2), (3, 2), (2, 4)])
        jobs = some_jobs(dice, dice.randint(1, most))
        counted = Counted(hands, presses, jobs)
        yield Plan(counted.bench, jobs), counted


class Counted:
    """What a plan has to tell, by counting: which hours of which place are whose."""

    def __init__(self, hands, presses, jobs):
        self.bench = Bench(hands, presses)
        self.places = [("hand", k) for k in range(1, hands + 1)] + [("press", k) for k in range(1, presses + 1)]
        self.jobs = sorted(jobs, key=lambda one: one.rank())
        self.hours = {place: {} for place in self.places}
        self.rows, self.ready, self.held, self.done = [], {}, {}, {}
        for one in self.jobs:
            hour = one.brought_at()
            for step, (work, hours, rest) in enumerate(one.of_style().steps(), 1):
                hour = self._put_in((one.numbered(), step), work, hours, hour) + rest
            self.done[one.numbered()] = hour

    def _put_in(self, which, work, hours, ready):
        of_kind = [place for place in self.places if (place[0] == "press") == (work == "press")]
        begin = ready
        while not self._free(of_kind, begin, hours):
            begin += 1
        place = self._free(of_kind, begin, hours)[0]
        self.ready[which] = ready
        self.held[which] = []
        if begin > ready:
            for other in of_kind:
                shared = [hour for hour in range(begin - 1, begin - 1 + hours) if hour in self.hours[other]]
                self.held[which].append((other,) + self.hours[other][shared[0]])
        for hour in range(begin, begin + hours):
            self.hours[place][hour] = which
        self.rows.append(which + (place, begin, begin + hours))
        return begin + hours

    def _free(self, places, begin, hours):
        return [place for place in places
                if not any(hour in self.hours[place] for hour in range(begin, begin + hours))]

    def at(self, hour):
        return [(place,) + self.hours[place][hour] for place in self.places if hour in self.hours[place]]

    def where(self, one, hour):
        """What a job does at an hour, asked of each of its steps in turn."""
        if hour < one.brought_at():
            return ("away", 0)
        for number, step, _, begin, end in self.rows:
            if number == one.numbered():
                rest = one.of_style().step(step)[2]
                if hour < end + rest:
                    return ("waits" if hour < begin else "at" if hour < end else "rests", step)
        return ("done", 0)

    def next_free(self, place, hours, since):
        while any(hour in self.hours[place] for hour in range(since, since + hours)):
            since += 1
        return since
