"""Checks papers, whoever made them: what they tell is held against the HALL and the ORDERS alone.

No part of a paper has more than there may be ORDERS: by that what has far too
much, maybe the same thing many times over, is refused at once.
"""

from bindbench.errors import NoPaper
from bindbench.giving import MOST_ORDERS, refuse_bad_orders
from bindbench.halls import MOST_SLOTS_ASKED
from bindbench.papers import refuse_bad_nights
from bindbench.words import is_number


def _is_tuple_of(thing, many):
    """Whether anything is a tuple of so many."""
    return type(thing) is tuple and len(thing) == many


def _is_rising(things):
    """Whether numbers, or pairs of numbers, rise."""
    return all([things[place] < things[place + 1] for place in range(len(things) - 1)])


def _is_short(thing):
    """Whether anything is a tuple of no more than there may be ORDERS."""
    return type(thing) is tuple and len(thing) <= MOST_ORDERS


def _are_numbers(thing):
    """Whether anything is a rising tuple of NUMBERS."""
    return _is_short(thing) and all([is_number(number) for number in thing]) and _is_rising(thing)


def _are_slots(hall, thing):
    """Whether anything is a rising tuple of SLOTS, LOST or not."""
    return _is_short(thing) and all([hall.has_slot(slot) for slot in thing]) and _is_rising(thing)


def _is_dealt(hall, thing):
    """Whether anything is a (NUMBER, SLOT)."""
    return _is_tuple_of(thing, 2) and is_number(thing[0]) and hall.has_slot(thing[1])


def _are_dealt(hall, thing):
    """Whether anything is a list or a tuple of (NUMBER, SLOT), rising, no SLOT twice."""
    if type(thing) not in (list, tuple) or not all([_is_dealt(hall, row) for row in thing]):
        return False
    return _is_rising([number for number, _ in thing]) and len(set([slot for _, slot in thing])) == len(thing)


class Known:
    """A HALL and ORDERS, against which a paper is held."""

    def __init__(self, hall, orders):
        self._hall = hall
        self._orders = {order.numbered(): order for order in orders}
        self._fits = {order.numbered(): hall.slots_of(order, MOST_SLOTS_ASKED) for order in orders}

    def _is_order(self, thing):
        """Whether anything is the NUMBER of one of the ORDERS."""
        return is_number(thing) and thing in self._orders

    def _all_fits(self, numbers):
        """A rising list of all SLOTS in which one of these FITS."""
        return sorted(set([slot for number in numbers for slot in self._fits[number]]))

    def _is_dealing(self, thing):
        """Whether anything is a DEALING of some of the ORDERS."""
        if not _are_dealt(self._hall, thing):
            return False
        return all([self._is_order(number) and slot in self._fits[number] for number, slot in thing])

    def _is_dealing_ahead(self, thing):
        """Whether anything is a DEALING of some of the ORDERS and of others, with whatever LOST."""
        if not _are_dealt(self._hall, thing):
            return False
        known = [(self._orders[number], slot) for number, slot in thing if number in self._orders]
        return all([self._hall.is_fit(slot, order) for order, slot in known])

    def _is_off(self, row, dealt):
        """Whether anything is a row that tells that an ORDER is PUT OFF, beside those that are dealt."""
        if not _is_tuple_of(row, 3):
            return False
        number, bars, slots = row
        if not self._is_order(number) or not _are_numbers(bars) or not _are_slots(self._hall, slots):
            return False
        rank = self._orders[number].rank()
        if not all([bar in dealt and self._orders[bar].rank() < rank for bar in bars]):
            return False
        return len(slots) == len(bars) and list(slots) == self._all_fits(bars + (number,))

    def is_kept_paper(self, paper):
        """Whether anything is a PAPER of the KEPT ORDERS."""
        if not _is_tuple_of(paper, 2):
            return False
        dealing, off = paper
        if type(dealing) is not tuple or not self._is_dealing(dealing):
            return False
        dealt = {number: True for number, _ in dealing}
        if not _is_short(off) or not all([self._is_off(row, dealt) for row in off]):
            return False
        others = [number for number, _, _ in off]
        return _is_rising(others) and sorted(list(dealt) + others) == sorted(self._orders)

    def is_most_paper(self, first, last, paper):
        """Whether anything is a PAPER of the MOST ORDERS from a NIGHT to another."""
        if not _is_tuple_of(paper, 3):
            return False
        dealing, numbers, slots = paper
        if type(dealing) is not tuple or not self._is_dealing(dealing):
            return False
        if not all([first <= night <= last for _, (night, _) in dealing]):
            return False
        if not _are_numbers(numbers) or not _are_slots(self._hall, slots):
            return False
        if not all([number in self._orders for number in numbers]) or len(numbers) + len(slots) != len(dealing):
            return False
        # Being as few as are dealt, SLOTS can't have one more than they must: without it they would be too few.
        wanted = self._all_fits([number for number in self._orders if number not in numbers])
        return list(slots) == [slot for slot in wanted if first <= slot[0] <= last]

    def is_fewest_paper(self, ahead, now, paper):
        """Whether anything is a PAPER that none has fewer MOVED, from a DEALING ahead to one now."""
        if not self._is_dealing_ahead(ahead) or not self._is_dealing(now):
            return False
        had = {number: slot for number, slot in ahead}
        has = {number: slot for number, slot in now}
        wanderers = [number for number in has if number not in had or self._hall.is_lost(had[number])]
        others = [number for number in has if number not in wanderers and has[number] != had[number]]
        if len(wanderers) == 0:
            return len(others) == 0 and _is_tuple_of(paper, 0)
        if len(wanderers) > 1 or not _is_tuple_of(paper, len(others)):
            return False
        holders = {slot: number for number, slot in ahead if number in has}
        return self._are_levels(wanderers[0], holders, paper)

    def _are_levels(self, wanderer, holders, levels):
        """Whether each of the things in a tuple is a LEVEL, from a WANDERER on, of SLOTS that some had ahead."""
        reached = {}
        asked = self._fits[wanderer]
        for level in levels:
            if not _are_slots(self._hall, level) or not all([slot in holders for slot in level]):
                return False
            for slot in level:
                reached[slot] = True
            if not all([slot in reached for slot in asked]):
                return False
            asked = self._all_fits([holders[slot] for slot in level])
        return True


def check_kept(hall, orders, paper):
    """Refuses what is no PAPER of the KEPT ORDERS."""
    refuse_bad_orders(hall, orders)
    if not Known(hall, orders).is_kept_paper(paper):
        raise NoPaper()


def check_most(hall, orders, first, last, paper):
    """Refuses what is no PAPER of the MOST ORDERS from a NIGHT to another."""
    refuse_bad_orders(hall, orders)
    refuse_bad_nights(first, last)
    if not Known(hall, orders).is_most_paper(first, last, paper):
        raise NoPaper()


def check_fewest(hall, orders, ahead, now, paper):
    """Refuses what is no PAPER that none has fewer MOVED, from a DEALING ahead to one now."""
    refuse_bad_orders(hall, orders)
    if not Known(hall, orders).is_fewest_paper(ahead, now, paper):
        raise NoPaper()
