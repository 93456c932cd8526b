"""Rounds for tests, and what a press does in them, counted hour by hour."""

import random

from bindbench.rounds import Round

# Told as LENGTH and CALLS: some keep up with much to spare, some just so, some don't.
TOLD = [
    (10, [(0, "calf", 3), (4, "cloth", 2)]),
    (10, [(0, "calf", 3), (0, "calf", 2), (9, "cloth", 4)]),
    (10, [(2, "calf", 5), (7, "cloth", 5)]),
    (10, [(9, "calf", 10)]),
    (10, [(9, "calf", 11)]),
    (10, [(0, "a", 3), (0, "b", 9), (5, "c", 2)]),
    (7, [(6, "a", 40), (6, "b", 1)]),
    (1, [(0, "a", 1)]),
    (1, [(0, "a", 2)]),
    (1, [(0, letter, 1) for letter in "abcdefghijkl"]),
    (5, [(at, letter, 1) for at, letter in enumerate("abaab")]),
    (1000, [(999, "a", 1000)]),
    (1000, [(0, "a", 1)]),
    (12, []),
    (3, [(0, "a", 1), (1, "a", 1), (2, "b", 3)]),
]


def some_rounds(seed, many=150, most_hours=9, names=("a", "b", "calf")):
    """So many (LENGTH, CALLS), always the same ones of a seed, that keep up about as often as they don't."""
    dice = random.Random(seed)
    for _ in range(many):
        length = dice.randint(1, 14)
        ats = sorted(dice.randrange(length) for _ in range(dice.randint(0, 5)))
        yield length, [(at, dice.choice(names), dice.choice([1, 1, 2, 3, most_hours])) for at in ats]


class Counted:
    """What a press does, hour by hour, of a round that is told by its length and its calls."""

    def __init__(self, length, calls, hours):
        self.round = Round(length, calls)
        self.at, self.waiting, self.how_many, self.idle = [], [], [], []
        self.begins, self.ends = {}, {}
        queue, idle = [], 0
        for hour in range(hours):
            turn = hour // length
            queue += [[turn, call, name, many] for call, (at, name, many) in enumerate(calls)
                      if turn * length + at == hour]
            self.at.append(tuple(queue[0]) if queue else None)
            self.waiting.append(sum(row[3] for row in queue))
            self.how_many.append(len(queue))
            self.idle.append(idle)
            if not queue:
                idle += 1
                continue
            self.begins.setdefault((queue[0][0], queue[0][1]), hour)
            queue[0][3] -= 1
            if queue[0][3] == 0:
                self.ends[queue[0][0], queue[0][1]] = hour + 1
                queue.pop(0)

    def names(self):
        return [on and on[2] for on in self.at]


def counts(many_rounds=5):
    """Each round that is told above, and more, with a count over several lengths and over several totals."""
    told = TOLD + list(some_rounds(30)) + list(some_rounds(31, 60, most_hours=30))
    for length, calls in told:
        step = max(length, sum(hours for _, _, hours in calls))
        yield length, calls, Counted(length, calls, min(many_rounds * step + 3, 6000))
