"""Styles, in which books are bound, and the jobs of binding them."""

from bindbench.errors import BadValue, NoSuch, TooMany
from bindbench.words import is_hour, is_kind, is_name, is_number, is_step, is_truth, is_whole, kind_of

MOST_STEPS = 12


def _are_steps(thing):
    """Whether anything is a list or a tuple of the STEPS of a STYLE."""
    if type(thing) not in (list, tuple) or not 1 <= len(thing) <= MOST_STEPS:
        return False
    return all([is_step(step) for step in thing])


class Style:
    """A way to bind a book, step by step."""

    def __init__(self, name, steps):
        if not is_name(name):
            raise BadValue("name")
        if not _are_steps(steps):
            raise BadValue("steps")
        self._name = name
        self._steps = tuple(steps)

    def named(self):
        """Its NAME."""
        return self._name

    def steps(self):
        """A list of its STEPS."""
        return list(self._steps)

    def step(self, number):
        """One STEP, by its number from 1."""
        if not is_whole(number, 1, len(self._steps)):
            raise NoSuch("step", number)
        return self._steps[number - 1]

    def span(self):
        """All its HOURS and RESTS together."""
        return sum([hours + rest for _, hours, rest in self._steps])

    def hours(self, kind=None):
        """All its HOURS together, or those of the STEPS of one KIND."""
        if kind is not None and not is_kind(kind):
            raise BadValue("kind")
        return sum([hours for work, hours, _ in self._steps if kind is None or kind_of(work) == kind])

    def put_in(self, step, at=None):
        """Another STYLE in which a STEP more is number at, or the last one."""
        if not is_step(step):
            raise BadValue("step")
        if at is not None and not is_whole(at, 1, len(self._steps) + 1):
            raise NoSuch("step", at)
        if len(self._steps) == MOST_STEPS:
            raise TooMany(MOST_STEPS)
        ahead = len(self._steps) if at is None else at - 1
        return Style(self._name, self._steps[:ahead] + (step,) + self._steps[ahead:])

    def left_out(self, number):
        """Another STYLE without the STEP of that number."""
        if not is_whole(number, 1, len(self._steps)):
            raise NoSuch("step", number)
        # Without its only STEP it would have none, which the other STYLE refuses.
        return Style(self._name, self._steps[:number - 1] + self._steps[number:])

    def __eq__(self, other):
        return type(other) is Style and self._name == other._name and self._steps == other._steps

    def __len__(self):
        return len(self._steps)

    def __str__(self):
        rows = [f"style {self._name}"]
        for work, hours, rest in self._steps:
            rows.append(f"{work} {hours} {rest}")
        return "\n".join(rows)

    def __repr__(self):
        return f"Style({self._name}, {len(self._steps)})"


class Job:
    """A book to be bound in a STYLE, brought and due at an HOUR."""

    def __init__(self, number, style, brought=0, due=None, haste=False):
        if not is_number(number):
            raise BadValue("number")
        if type(style) is not Style:
            raise BadValue("style")
        if not is_hour(brought):
            raise BadValue("brought")
        last = brought + style.span() if due is None else due
        if not is_hour(last, brought):
            raise BadValue("due")
        if not is_truth(haste):
            raise BadValue("haste")
        self._number = number
        self._style = style
        self._brought = brought
        self._due = last
        self._haste = haste

    def numbered(self):
        """Its NUMBER."""
        return self._number

    def of_style(self):
        """Its STYLE."""
        return self._style

    def brought_at(self):
        """The HOUR at which it is BROUGHT."""
        return self._brought

    def due_at(self):
        """The HOUR at which it is DUE."""
        return self._due

    def in_haste(self):
        """Whether it has HASTE."""
        return self._haste

    def rank(self):
        """Its RANK, a tuple: the lesser one goes ahead."""
        return (0 if self._haste else 1, self._due, self._brought, self._number)

    def room(self):
        """The hours that it may rest or wait beyond its SPAN, less than 0 where even that is too long."""
        return self._due - self._brought - self._style.span()

    def hastened(self, haste=True):
        """Another JOB, with HASTE or without."""
        return Job(self._number, self._style, self._brought, self._due, haste)

    def __eq__(self, other):
        # A RANK holds all that a JOB has but its STYLE.
        return type(other) is Job and self.rank() == other.rank() and self._style == other._style

    def __str__(self):
        words = ["job", str(self._number), self._style.named(), str(self._brought), str(self._due)]
        if self._haste:
            words.append("haste")
        return " ".join(words)

    def __repr__(self):
        return f"Job({self._number}, {self._style.named()})"


def _rank_of(job):
    return job.rank()


def by_rank(jobs):
    """A list of JOBS, rising by RANK, of equal RANKS as they stand."""
    return sorted(jobs, key=_rank_of)


def first_of(jobs):
    """The JOB of the least RANK, of equal RANKS the earliest, or None."""
    return min(jobs, key=_rank_of, default=None)


def by_style(jobs):
    """A rising list of (NAME, NUMBERS), of the JOBS of the STYLES of each NAME."""
    found = {}
    for job in jobs:
        found.setdefault(job.of_style().named(), []).append(job.numbered())
    return [(name, sorted(set(found[name]))) for name in sorted(found)]
