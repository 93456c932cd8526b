"""SLOTS given to ORDERS, no two the same one.

An ORDER is let in by a search from it on: the SLOTS in which it FITS, then
those in which one FITS that has one of these, and so on, level by level, up to
a free SLOT. Then one ORDER of each level moves on to the next one. Fewer can't
be moved, for none leads further than from its level to the next one. Where no
free SLOT is reached, it can't be let in: it and the ORDERS that have the SLOTS
that were reached FIT in no others, and are one more than these.

Of each ORDER just the first MOST_ORDERS SLOTS are looked at. Fewer than that
are given to others, so of one that has so many one is free, and a search that
comes to it is over there.
"""

from bindbench.errors import BadValue
from bindbench.halls import Hall, Order
from bindbench.styles import by_rank

MOST_ORDERS = 40


def are_orders(thing):
    """Whether anything is a list or a tuple of at most forty ORDERS, unlike by NUMBER."""
    if type(thing) not in (list, tuple) or len(thing) > MOST_ORDERS:
        return False
    if not all([type(order) is Order for order in thing]):
        return False
    return len(set([order.numbered() for order in thing])) == len(thing)


def refuse_bad_orders(hall, orders):
    """Refuses what is no HALL, then what are no ORDERS."""
    if type(hall) is not Hall:
        raise BadValue("hall")
    if not are_orders(orders):
        raise BadValue("orders")


class Given:
    """Which ORDER has which SLOT of a HALL."""

    def __init__(self, hall, orders):
        self._fits = {order.numbered(): hall.slots_of(order, MOST_ORDERS) for order in orders}
        self._slots = {}
        self._holders = {}

    def give(self, number, slot):
        """An ORDER has a SLOT from now on."""
        self._slots[number] = slot
        self._holders[slot] = number

    def slots(self):
        """The SLOT of each ORDER that has one, by NUMBER."""
        return dict(self._slots)

    def _search(self, number):
        """(LEVELS, WAYS, FREE): SLOTS by level, the ORDER by which each was reached, the free one or None."""
        levels = []
        ways = {}
        asked = [number]
        while asked:
            reached = []
            for one in asked:
                for slot in self._fits[one]:
                    if slot in ways:
                        continue
                    ways[slot] = one
                    if slot not in self._holders:
                        return levels, ways, slot
                    reached.append(slot)
            levels.append(reached)
            asked = [self._holders[slot] for slot in reached]
        return levels, ways, None

    def let_in(self, number):
        """Gives an ORDER a SLOT, with the fewest others moved: the LEVELS of the search, or None if it can't be."""
        levels, ways, free = self._search(number)
        slot = free
        while slot is not None:
            one = ways[slot]
            left = self._slots.get(one)
            self.give(one, slot)
            slot = left
        if free is None:
            return None
        return tuple([tuple(sorted(level)) for level in levels])

    def in_the_way(self, number):
        """Of an ORDER that can't be let in the ORDERS that have the SLOTS reached, and these, both rising."""
        _, ways, _ = self._search(number)
        slots = sorted(ways)
        return sorted([self._holders[slot] for slot in slots]), slots


def deal(hall, orders):
    """(DEALT, OFF): by NUMBER the SLOT of each ORDER that is KEPT, and (BARS, FULL SLOTS) of each that is PUT OFF."""
    given = Given(hall, orders)
    off = {}
    # An ORDER ranks as its JOB does.
    for order in by_rank(orders):
        number = order.numbered()
        if given.let_in(number) is None:
            off[number] = given.in_the_way(number)
    return given.slots(), off
