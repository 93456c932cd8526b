"""A bench with its places, and the plan by which jobs are done there."""

from bindbench.errors import BadValue, NoSuch, TooMany
from bindbench.styles import Job, by_rank
from bindbench.words import KINDS, is_kind, is_whole, kind_of

MOST_OF_A_KIND = 9
MOST_JOBS = 40
LAST_ASKED_HOUR = 10 ** 9


class Bench:
    """HANDS and PRESSES, each a PLACE at which one STEP after another is done."""

    def __init__(self, hands=1, presses=1):
        if not is_whole(hands, 1, MOST_OF_A_KIND):
            raise BadValue("hands")
        if not is_whole(presses, 1, MOST_OF_A_KIND):
            raise BadValue("presses")
        self._many = {"hand": hands, "press": presses}
        self._places = [(kind, number) for kind in KINDS for number in range(1, self._many[kind] + 1)]

    def places(self):
        """A list of its PLACES, hands ahead of presses."""
        return list(self._places)

    def how_many(self, kind):
        """How many PLACES of a KIND it has."""
        if not is_kind(kind):
            raise NoSuch("kind", kind)
        return self._many[kind]

    def __eq__(self, other):
        return type(other) is Bench and self._places == other._places

    def __len__(self):
        return len(self._places)

    def __str__(self):
        return f"hands {self._many['hand']} presses {self._many['press']}"


def _is_place(bench, thing):
    """Whether anything is a PLACE of a BENCH."""
    if type(thing) is not tuple or len(thing) != 2:
        return False
    kind, number = thing
    return is_kind(kind) and is_whole(number, 1, bench.how_many(kind))


def _are_jobs(thing):
    """Whether anything is a list or a tuple of the JOBS of a PLAN."""
    if type(thing) not in (list, tuple) or len(thing) > MOST_JOBS:
        return False
    if not all([type(job) is Job for job in thing]):
        return False
    return len(set([job.numbered() for job in thing])) == len(thing)


def _over_by(taken, since):
    """How many of what is taken, rising by BEGIN and so by END, are over by an hour."""
    # By halves: a house makes plans anew at nearly each deed.
    least = 0
    most = len(taken)
    while least < most:
        middle = (least + most) // 2
        if taken[middle][1] <= since:
            least = middle + 1
        else:
            most = middle
    return least


def _free_from(taken, hours, since):
    """The least hour, not less than since, from which on none of what is taken, rising by BEGIN, is in the way."""
    hour = since
    for place in range(_over_by(taken, since), len(taken)):
        begin, end, _, _ = taken[place]
        if begin - hour >= hours:
            return hour
        hour = end
    return hour


class Plan:
    """When and at which PLACE of a BENCH each STEP of its JOBS is done."""

    def __init__(self, bench, jobs=None):
        if type(bench) is not Bench:
            raise BadValue("bench")
        told = () if jobs is None else jobs
        if not _are_jobs(told):
            raise BadValue("jobs")
        self._bench = bench
        self._jobs = by_rank(told)
        # What is at each PLACE, as (BEGIN, END, NUMBER, STEP's number), rising by BEGIN.
        self._taken = {place: [] for place in bench.places()}
        # Which STEP ends at a PLACE at an hour.
        self._ending = {}
        self._rows = []
        # Of each JOB at which place among the rows its own ones begin: they stand together.
        self._first_row = {}
        self._ready = {}
        self._done = {}
        for job in self._jobs:
            self._put_in(job)

    def _put_in(self, job):
        """Puts in the STEPS of a JOB, behind all that are put in already."""
        number = job.numbered()
        self._first_row[number] = len(self._rows)
        ready = job.brought_at()
        for step, (work, hours, rest) in enumerate(job.of_style().steps(), start=1):
            begin, place = self._soonest(kind_of(work), hours, ready)
            end = begin + hours
            self._taken[place] = sorted(self._taken[place] + [(begin, end, number, step)])
            self._ending[place, end] = (number, step)
            self._rows.append((number, step, place, begin, end))
            self._ready[number, step] = ready
            ready = end + rest
        self._done[number] = ready

    def _soonest(self, kind, hours, since):
        """The least hour from which on a PLACE of a KIND is free for so long, and of such PLACES the least."""
        places = [(kind, number) for number in range(1, self._bench.how_many(kind) + 1)]
        return min([(_free_from(self._taken[place], hours, since), place) for place in places])

    def _refuse_no_job(self, number):
        if type(number) is not int or number not in self._done:
            raise NoSuch("job", number)

    def _refuse_no_step(self, number, step):
        self._refuse_no_job(number)
        if type(step) is not int or (number, step) not in self._ready:
            raise NoSuch("step", step)

    def _refuse_no_place(self, place):
        if not _is_place(self._bench, place):
            raise NoSuch("place", place)

    def _rows_of(self, number):
        return [row for row in self._rows if row[0] == number]

    def _place_among_rows(self, number, step):
        return self._first_row[number] + step - 1

    def _late(self, job):
        return max(0, self._done[job.numbered()] - job.due_at())

    def jobs(self):
        """A list of its JOBS, rising by RANK."""
        return list(self._jobs)

    def rows(self, number=None):
        """Each STEP's (NUMBER, STEP's number, PLACE, BEGIN, END) as they were put in, of all JOBS or of one."""
        if number is None:
            return list(self._rows)
        self._refuse_no_job(number)
        return self._rows_of(number)

    def done(self, number):
        """The hour at which a JOB is DONE."""
        self._refuse_no_job(number)
        return self._done[number]

    def late(self, number=None):
        """By how many hours a JOB is LATE, or all together."""
        if number is not None:
            self._refuse_no_job(number)
        return sum([self._late(job) for job in self._jobs if number is None or job.numbered() == number])

    def ready(self, number, step):
        """The hour at which a STEP is READY."""
        self._refuse_no_step(number, step)
        return self._ready[number, step]

    def held(self, number, step):
        """By what a STEP is HELD at each PLACE of its KIND, as (PLACE, NUMBER, STEP's number); empty if it isn't."""
        self._refuse_no_step(number, step)
        at = self._place_among_rows(number, step)
        _, _, (kind, _), begin, end = self._rows[at]
        if begin == self._ready[number, step]:
            return []
        in_the_way = {}
        for other, its_step, place, its_begin, its_end in self._rows[:at]:
            # An hour in common with the HOURS from one hour ahead of BEGIN on.
            if place[0] == kind and its_begin < end - 1 and its_end > begin - 1:
                in_the_way.setdefault(place, []).append((its_begin, other, its_step))
        earliest = [(place, min(in_the_way[place])) for place in sorted(in_the_way)]
        return [(place, other, its_step) for place, (_, other, its_step) in earliest]

    def _followed(self, number, step):
        """The STEP that a STEP FOLLOWS, or None."""
        _, _, place, begin, _ = self._rows[self._place_among_rows(number, step)]
        if begin > self._ready[number, step]:
            return self._ending[place, begin]
        if step == 1:
            return None
        return (number, step - 1)

    def chain(self, number):
        """The CHAIN of a JOB, a list of (NUMBER, STEP's number)."""
        self._refuse_no_job(number)
        backwards = []
        link = (number, len(self._rows_of(number)))
        while link is not None:
            backwards.append(link)
            its_number, step = link
            link = self._followed(its_number, step)
        return backwards[::-1]

    def where(self, number, hour):
        """What a JOB does at an hour, and the number of the STEP."""
        self._refuse_no_job(number)
        if not is_whole(hour, 0, LAST_ASKED_HOUR):
            raise BadValue("hour")
        rows = self._rows_of(number)
        if hour < self._ready[number, 1]:
            return ("away", 0)
        if hour >= self._done[number]:
            return ("done", 0)
        # The JOB isn't done, so the STEP that it is at, rests behind or waits for is the last that is READY by then.
        _, step, _, begin, end = [row for row in rows if self._ready[number, row[1]] <= hour][-1]
        if hour < begin:
            return ("waits", step)
        if hour < end:
            return ("at", step)
        return ("rests", step)

    def at(self, hour):
        """What is at which PLACE at an hour, as (PLACE, NUMBER, STEP's number)."""
        if not is_whole(hour, 0, LAST_ASKED_HOUR):
            raise BadValue("hour")
        found = []
        for place in self._bench.places():
            for begin, end, number, step in self._taken[place]:
                if begin <= hour < end:
                    found.append((place, number, step))
        return found

    def next_free(self, place, hours=1, since=0):
        """The least hour, not less than since, from which on a PLACE is free for so many hours."""
        self._refuse_no_place(place)
        if not is_whole(hours, 1):
            raise BadValue("hours")
        if not is_whole(since, 0):
            raise BadValue("since")
        return _free_from(self._taken[place], hours, since)

    def busy(self, place):
        """In how many hours a PLACE has something."""
        self._refuse_no_place(place)
        return sum([end - begin for begin, end, _, _ in self._taken[place]])

    def end(self):
        """The greatest hour at which one of its JOBS is DONE, 0 without JOBS."""
        return max([self._done[job.numbered()] for job in self._jobs], default=0)

    def with_job(self, job):
        """Another PLAN of the same BENCH, with that JOB, too."""
        if type(job) is not Job:
            raise BadValue("job")
        if job.numbered() in self._done:
            raise BadValue("number")
        if len(self._jobs) == MOST_JOBS:
            raise TooMany(MOST_JOBS)
        return Plan(self._bench, self._jobs + [job])

    def without_job(self, number):
        """Another PLAN of the same BENCH, without that JOB."""
        self._refuse_no_job(number)
        return Plan(self._bench, [job for job in self._jobs if job.numbered() != number])

    def moved(self, other):
        """A rising list of the NUMBERS that both PLANS have, but with other rows."""
        if type(other) is not Plan:
            raise BadValue("plan")
        both = [number for number in sorted(self._done) if number in other._done]
        return [number for number in both if self._rows_of(number) != other._rows_of(number)]

    def _text_of(self, place):
        """The row of a PLACE in the PLAN's text."""
        kind, place_number = place
        words = [kind, str(place_number)]
        for begin, end, number, step in self._taken[place]:
            words.extend([str(number), str(step), str(begin), str(end)])
        return " ".join(words)

    def __eq__(self, other):
        return type(other) is Plan and self._bench == other._bench and self._jobs == other._jobs

    def __len__(self):
        return len(self._jobs)

    def __str__(self):
        return "\n".join([self._text_of(place) for place in self._bench.places()])
