"""Rounds: what one press does whose calls come round for ever.

Let the step of a round be its LENGTH, or its TOTAL if that is more. From round
1 on each call begins just so many hours behind the same call of the round
ahead. For where a round keeps up, the work that is left over at the end of
round 0 is left over at the end of each one. And where it doesn't, the press is
never idle from hour LENGTH on. So two rounds, gone through, tell all others.
"""

from bindbench.errors import BadValue, NoSuch
from bindbench.words import is_name, is_whole

MOST_LENGTH = 1000
MOST_CALLS = 12
MOST_CALL_HOURS = 1000
FARTHEST = 10 ** 18


def _are_calls(thing, length):
    """Whether anything is a list or a tuple of the CALLS of a ROUND of that LENGTH."""
    if type(thing) not in (list, tuple) or len(thing) > MOST_CALLS:
        return False
    least = 0
    for call in thing:
        if type(call) is not tuple or len(call) != 3:
            return False
        at, name, hours = call
        if not is_whole(at, least, length - 1) or not is_name(name) or not is_whole(hours, 1, MOST_CALL_HOURS):
            return False
        least = at
    return True


def _refuse_no_hour(hour):
    if not is_whole(hour, 0, FARTHEST):
        raise BadValue("hour")


class Round:
    """CALLS for one press, which come again each LENGTH hours."""

    def __init__(self, length, calls=None):
        if not is_whole(length, 1, MOST_LENGTH):
            raise BadValue("length")
        told = () if calls is None else calls
        if not _are_calls(told, length):
            raise BadValue("calls")
        self._length = length
        self._calls = tuple(told)
        self._total = sum([hours for _, _, hours in self._calls])
        self._step = max(length, self._total)
        self._begins = self._first_begins()

    def _first_begins(self):
        """When each CALL begins in round 0, and then when each does in round 1."""
        begins = []
        free = 0
        for turn in range(2):
            for at, _, hours in self._calls:
                begin = max(free, turn * self._length + at)
                begins.append(begin)
                free = begin + hours
        return begins

    def _begin(self, turn, call):
        """When a CALL begins in the round of that number."""
        if turn == 0:
            return self._begins[call]
        return self._begins[len(self._calls) + call] + (turn - 1) * self._step

    def _begun(self, call, hour):
        """In how many rounds a CALL has begun by an hour."""
        if hour < self._begin(0, call):
            return 0
        if hour < self._begin(1, call):
            return 1
        return 2 + (hour - self._begin(1, call)) // self._step

    def _ended(self, call, hour):
        """In how many rounds a CALL has ended by an hour."""
        return self._begun(call, hour - self._calls[call][2])

    def _came(self, call, hour):
        """In how many rounds a CALL came up to an hour."""
        return (hour - self._calls[call][0]) // self._length + 1

    def _hours_done(self, call, hour):
        """How many hours of a CALL, in all rounds, are done by an hour."""
        hours = self._calls[call][2]
        ended = self._ended(call, hour)
        if self._begun(call, hour) == ended:
            return ended * hours
        return ended * hours + hour - self._begin(ended, call)

    def _all_done(self, hour):
        """How many hours of work are done by an hour."""
        return sum([self._hours_done(call, hour) for call in range(len(self._calls))])

    def _waiting(self, hour):
        """WAITING, also at an hour beyond the farthest that is asked for."""
        came = sum([self._came(call, hour) * hours for call, (_, _, hours) in enumerate(self._calls)])
        return came - self._all_done(hour)

    def length(self):
        """Its LENGTH."""
        return self._length

    def total(self):
        """Its TOTAL."""
        return self._total

    def calls(self):
        """A list of its CALLS."""
        return list(self._calls)

    def keeps_up(self):
        """Whether no more work comes in a round than can be done in one."""
        return self._total <= self._length

    def _refuse_no_call(self, turn, call):
        if not is_whole(turn, 0, FARTHEST):
            raise BadValue("round")
        if not is_whole(call, 0, len(self._calls) - 1):
            raise NoSuch("call", call)

    def begins(self, turn, call):
        """The hour at which a CALL begins in the round of that number."""
        self._refuse_no_call(turn, call)
        return self._begin(turn, call)

    def ends(self, turn, call):
        """The hour at which a CALL ends in the round of that number."""
        self._refuse_no_call(turn, call)
        return self._begin(turn, call) + self._calls[call][2]

    def at(self, hour):
        """(K, CALL's number, NAME, LEFT) of what is on the press from an hour on, or None."""
        _refuse_no_hour(hour)
        for call, (_, name, hours) in enumerate(self._calls):
            turn = self._ended(call, hour)
            if self._begun(call, hour) > turn:
                return (turn, call, name, self._begin(turn, call) + hours - hour)
        return None

    def waiting(self, hour):
        """The hours of work that came up to an hour, at it too, and aren't yet done then."""
        _refuse_no_hour(hour)
        return self._waiting(hour)

    def how_many(self, hour):
        """How many CALLS came up to an hour, at it too, and haven't ended by then."""
        _refuse_no_hour(hour)
        return sum([self._came(call, hour) - self._ended(call, hour) for call in range(len(self._calls))])

    def idle(self, hour):
        """How many of the hours ahead of an hour had nothing on the press."""
        _refuse_no_hour(hour)
        return hour - self._all_done(hour)

    def first_over(self, most):
        """The least hour, however far, at which more than so many hours are WAITING, or None."""
        if not is_whole(most, 0, FARTHEST):
            raise BadValue("most")
        # More is WAITING than at the hour ahead only where a CALL comes.
        hours = [turn * self._length + call[0] for turn in range(2) for call in self._calls]
        if not self.keeps_up():
            hours.extend([self._hour_over(call[0], most) for call in self._calls])
        return min([hour for hour in hours if self._waiting(hour) > most], default=None)

    def _hour_over(self, at, most):
        """Of a ROUND that doesn't keep up the least hour of those that are AT in a round, from 1 on, to have more."""
        second = self._length + at
        # From round 1 on so much more is WAITING in each round than in the one ahead.
        growth = self._total - self._length
        lacking = max(0, most + 1 - self._waiting(second))
        return second + (lacking + growth - 1) // growth * self._length

    def _names(self, many):
        """The NAMES on the press at the first so many hours, None where there is none."""
        names = []
        turn = 0
        while self._calls and len(names) < many:
            for call, (_, name, hours) in enumerate(self._calls):
                idle = self._begin(turn, call) - len(names)
                names.extend([None] * idle + [name] * hours)
            turn += 1
        return names[:many] + [None] * (many - len(names))

    def __eq__(self, other):
        return type(other) is Round and self._length == other._length and self._calls == other._calls

    def __len__(self):
        return len(self._calls)

    def __str__(self):
        rows = [f"{at} {name} {hours}" for at, name, hours in self._calls]
        return "\n".join([f"round {self._length}"] + rows)


def parted(one, other):
    """The least hour that parts two ROUNDS, or None where they LOOK ALIKE."""
    if type(one) is not Round or type(other) is not Round:
        raise BadValue("round")
    # From the greater LENGTH on both repeat, each by its step: alike for both steps together, they stay so.
    many = max(one._length, other._length) + one._step + other._step
    for hour, (name, its_name) in enumerate(zip(one._names(many), other._names(many))):
        if name != its_name:
            return hour
    return None
