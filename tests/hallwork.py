"""Halls and orders for tests, and what is dealt of them by a search of every dealing."""

import random

from benchwork import calf
from bindbench.halls import Hall, Order
from bindbench.styles import Job


def order(number, size=1, first=0, last=None, due=100, haste=False):
    return Order(Job(number, calf(), 0, due, haste), size, first, last)


def orders_of(many):
    """So many orders of one night in one frame, each of a night of its own."""
    return [order(number, 1, number) for number in range(1, many + 1)]


def lost_slots(many):
    return [(night, 1) for night in range(many)]


def numbers(orders):
    return [one.numbered() for one in orders]


def some_order(dice, number):
    first = dice.randint(0, 3)
    return order(number, dice.choice([1, 5, 6, 10, 11, 20, 25]), first, first + dice.choice([0, 0, 1, 1, 2]),
                 dice.randint(0, 9), dice.random() < 0.3)


def some_hall(dice):
    sizes = [dice.choice([5, 10, 20]) for _ in range(dice.choice([1, 1, 2, 2, 3]))]
    slots = [(night, frame) for night in range(6) for frame in range(1, len(sizes) + 1)]
    return Hall(sizes, dice.sample(slots, dice.choice([0, 0, 1, 2, 3])))


def some_halls(seed, many=80, most=7):
    """So many (HALL, ORDERS), always the same ones of a seed, the orders in each other's way."""
    dice = random.Random(seed)
    for _ in range(many):
        chosen = dice.sample(range(1, 60), dice.randint(0, most))
        yield some_hall(dice), [some_order(dice, number) for number in chosen]


def full_house(seed=1):
    """As much as there may be: (HALL, ORDERS) of nine frames, a hundred lost slots and forty orders of sixty sizes."""
    dice = random.Random(seed)
    sizes = [dice.randint(1, 60) for _ in range(8)] + [60]
    lost = dice.sample([(night, frame) for night in range(35) for frame in range(1, 10)], 100)
    orders = []
    for number in dice.sample(range(1, 100000), 40):
        first = dice.randint(0, 4)
        orders.append(order(number, dice.randint(1, 60), first, first + 30, dice.randint(0, 1000), dice.random() < 0.3))
    return Hall(sizes, lost), orders


def tight_house(seed=1):
    """Nine frames, a hundred lost slots and forty orders on few nights, so that many are put off."""
    dice = random.Random(seed)
    lost = dice.sample([(night, frame) for night in range(13) for frame in range(1, 10)], 100)
    orders = [order(number, dice.randint(1, 60), 0, 12, dice.randint(0, 1000), dice.random() < 0.3)
              for number in dice.sample(range(1, 100000), 40)]
    return Hall([10, 20, 30, 40, 50, 60, 60, 15, 25], lost), orders


def fits(hall, one):
    """The slots in which an order fits, by a look at each night and frame."""
    size, first, last = one.wants()
    sizes, lost = hall.sizes(), hall.lost()
    return [(night, frame) for night in range(max(0, first - 2), last + 3) for frame in range(1, len(sizes) + 1)
            if first <= night <= last and sizes[frame - 1] >= size and (night, frame) not in lost]


def dealings(hall, orders, taken=()):
    """Each dealing of all these orders, as a dict of slots by number."""
    if not orders:
        yield {}
        return
    for slot in fits(hall, orders[0]):
        if slot not in taken:
            for rest in dealings(hall, orders[1:], taken + (slot,)):
                yield {orders[0].numbered(): slot, **rest}


def can_be_dealt(hall, orders):
    return next(dealings(hall, orders), None) is not None


def ranked(orders):
    return sorted(orders, key=lambda one: one.rank())


def searched_kept(hall, orders):
    """The orders that are kept, rising by rank: one behind the other, by a search of every dealing."""
    found = []
    for one in ranked(orders):
        if can_be_dealt(hall, found + [one]):
            found.append(one)
    return found


def searched_bars(hall, orders, one):
    """Of an order that is put off its bars and the full slots, both rising."""
    ahead = [other for other in searched_kept(hall, orders) if other.rank() < one.rank()]
    bars = [other for other in ahead
            if can_be_dealt(hall, [left for left in ahead if left is not other] + [one])]
    slots = {slot for other in bars + [one] for slot in fits(hall, other)}
    return sorted(numbers(bars)), sorted(slots)


def most_dealt(orders_and_slots, taken=()):
    """As many as there is a dealing of, of pairs of an order and slots for it, by a search."""
    if not orders_and_slots:
        return 0
    (_, slots), *rest = orders_and_slots
    found = [most_dealt(rest, taken)]
    found += [1 + most_dealt(rest, taken + (slot,)) for slot in slots if slot not in taken]
    return max(found)


def fewest_moved(hall, orders, ahead, taken=()):
    """The fewest of these orders that a dealing of all of them moves from the slots ahead; None if there is none."""
    if not orders:
        return 0
    found = []
    for slot in fits(hall, orders[0]):
        if slot not in taken:
            rest = fewest_moved(hall, orders[1:], ahead, taken + (slot,))
            if rest is not None:
                found.append(rest + (ahead.get(orders[0].numbered(), slot) != slot))
    return min(found, default=None)
