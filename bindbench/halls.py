"""A hall of standing presses, and the orders for a night in one of them."""

from bindbench.errors import BadValue, NoSuch, TooMany
from bindbench.styles import Job
from bindbench.words import is_whole

LAST_NIGHT = 99999
MOST_SIZE = 60
MOST_FRAMES = 9
MOST_LOST = 100
MOST_NIGHTS_LATER = 30
MOST_SLOTS_ASKED = 1000


def is_night(thing, first=0):
    """Whether anything is a NIGHT, not less than first."""
    return is_whole(thing, first, LAST_NIGHT)


def is_size(thing):
    """Whether anything is a SIZE."""
    return is_whole(thing, 1, MOST_SIZE)


def is_last(thing, first):
    """Whether anything can be the LAST NIGHT of an ORDER of which a NIGHT is FIRST."""
    return is_night(thing, first) and thing - first <= MOST_NIGHTS_LATER


def are_sizes(thing):
    """Whether anything is a list or a tuple of the SIZES of a HALL's FRAMES."""
    if type(thing) not in (list, tuple) or not 1 <= len(thing) <= MOST_FRAMES:
        return False
    return all([is_size(size) for size in thing])


class Hall:
    """FRAMES of one SIZE or another, each for one ORDER a NIGHT, and the SLOTS that are LOST."""

    def __init__(self, sizes, lost=None):
        if not are_sizes(sizes):
            raise BadValue("sizes")
        self._sizes = tuple(sizes)
        told = () if lost is None else lost
        if not self._can_be_lost(told):
            raise BadValue("lost")
        self._lost = {slot: True for slot in sorted(told)}

    def _can_be_lost(self, thing):
        """Whether anything is a list or a tuple of the SLOTS that are LOST."""
        if type(thing) not in (list, tuple) or len(thing) > MOST_LOST:
            return False
        if not all([self.has_slot(slot) for slot in thing]):
            return False
        return len(set(thing)) == len(thing)

    def has_slot(self, thing):
        """Whether anything is a SLOT of it, LOST or not."""
        if type(thing) is not tuple or len(thing) != 2:
            return False
        night, frame = thing
        return is_night(night) and is_whole(frame, 1, len(self._sizes))

    def is_slot(self, thing):
        """Whether anything is a SLOT of it that isn't LOST."""
        return self.has_slot(thing) and thing not in self._lost

    def is_lost(self, thing):
        """Whether anything is a SLOT of it that is LOST."""
        return self.has_slot(thing) and thing in self._lost

    def sizes(self):
        """A list of its FRAMES' SIZES."""
        return list(self._sizes)

    def lost(self):
        """A rising list of its LOST SLOTS."""
        return list(self._lost)

    def with_lost(self, slot):
        """Another HALL in which a SLOT more is LOST."""
        if not self.is_slot(slot):
            raise NoSuch("slot", slot)
        if len(self._lost) == MOST_LOST:
            raise TooMany(MOST_LOST)
        return Hall(self._sizes, list(self._lost) + [slot])

    def with_found(self, slot):
        """Another HALL in which a SLOT is LOST no more."""
        if not self.is_lost(slot):
            raise NoSuch("slot", slot)
        return Hall(self._sizes, [other for other in self._lost if other != slot])

    def is_fit(self, slot, order):
        """Whether an ORDER FITS in a SLOT of it, were that not LOST."""
        night, frame = slot
        size, first, last = order.wants()
        return first <= night <= last and self._sizes[frame - 1] >= size

    def _fits(self, order, most):
        """The first so many SLOTS in which an ORDER FITS."""
        size, first, last = order.wants()
        frames = [frame for frame, its_size in enumerate(self._sizes, start=1) if its_size >= size]
        found = []
        for night in range(first, last + 1):
            for frame in frames:
                if len(found) == most:
                    return found
                if (night, frame) not in self._lost:
                    found.append((night, frame))
        return found

    def slots_of(self, order, most=40):
        """A rising list of the first so many SLOTS in which an ORDER FITS."""
        if type(order) is not Order:
            raise BadValue("order")
        if not is_whole(most, 0, MOST_SLOTS_ASKED):
            raise BadValue("most")
        return self._fits(order, most)

    def how_many(self, order):
        """In how many SLOTS an ORDER FITS."""
        if type(order) is not Order:
            raise BadValue("order")
        return len(self._fits(order, MOST_SLOTS_ASKED))

    def __eq__(self, other):
        return type(other) is Hall and self._sizes == other._sizes and self._lost == other._lost

    def __len__(self):
        return len(self._sizes)

    def __str__(self):
        words = ["hall"] + [str(size) for size in self._sizes]
        for night, frame in self._lost:
            words.extend(["lost", str(night), str(frame)])
        return " ".join(words)


class Order:
    """The wish of a JOB for a NIGHT in a FRAME of its SIZE or a greater one."""

    def __init__(self, job, size=1, first=0, last=None):
        if type(job) is not Job:
            raise BadValue("job")
        if not is_size(size):
            raise BadValue("size")
        if not is_night(first):
            raise BadValue("first")
        told = first if last is None else last
        if not is_last(told, first):
            raise BadValue("last")
        self._job = job
        self._size = size
        self._first = first
        self._last = told

    def of_job(self):
        """The JOB of which it is."""
        return self._job

    def numbered(self):
        """Its NUMBER, that of its JOB."""
        return self._job.numbered()

    def wants(self):
        """Its SIZE, its FIRST NIGHT and its LAST one."""
        return (self._size, self._first, self._last)

    def rank(self):
        """Its RANK, that of its JOB."""
        return self._job.rank()

    def hastened(self, haste=True):
        """Another ORDER, whose JOB has HASTE or none."""
        return Order(self._job.hastened(haste), self._size, self._first, self._last)

    def __eq__(self, other):
        return type(other) is Order and self._job == other._job and self.wants() == other.wants()

    def __len__(self):
        return len(range(self._last - self._first + 1))

    def __str__(self):
        return f"order {self.numbered()} {self._size} {self._first} {self._last}"

    def __repr__(self):
        return f"Order({self.numbered()}, {self._size})"
