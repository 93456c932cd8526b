"""Deeds of a nightbook, by chance but always the same ones of a seed, and what is asked of each answer."""

import random

from bindbench.dealings import Nightbook, kept
from bindbench.halls import Hall
from hallwork import fewest_moved, fits, numbers, some_hall, some_order
from paperwork import is_fewest_paper, wanderers

NOTHING = ((), (), ())


def some_deed(dice, book, most):
    """The name of a method and its arguments, none of which is refused."""
    orders = book.orders()
    slots = sorted({slot for one in orders for slot in fits(Hall(book.hall().sizes()), one)})
    held = [slot for _, slot in book.dealing()]
    lost = book.hall().lost()
    deeds = ["bring"] * 4 * (len(orders) < most) + ["drop", "hasten"] * (len(orders) > 0)
    deeds += ["lose"] * 3 * (len(slots) > 0) + ["restore"] * 2 * (len(lost) > 0)
    deed = dice.choice(deeds)
    if deed == "bring":
        free = [number for number in range(1, 99) if number not in numbers(orders)]
        return deed, (some_order(dice, dice.choice(free)),)
    if deed == "drop":
        return deed, (dice.choice(numbers(orders)),)
    if deed == "hasten":
        return deed, (dice.choice(numbers(orders)), dice.random() < 0.6)
    if deed == "lose":
        return deed, (dice.choice(held * 4 + slots),)
    return deed, (dice.choice(lost),)


def some_deeds(seed, books=12, deeds=25, most=6):
    """Triples of a nightbook, a deed and its arguments; each deed is to be done before the next one is asked for."""
    dice = random.Random(seed)
    for _ in range(books):
        book = Nightbook(some_hall(dice))
        for _ in range(deeds):
            yield book, *some_deed(dice, book, most)


def answers_well(test, book, ahead, change):
    """That a nightbook stands as it should, and that the change from the dealing ahead is told as it is."""
    orders, now = book.orders(), dict(book.dealing())
    ahead = dict(ahead)
    test.assertEqual(book.kept(), kept(book.hall(), orders))
    test.assertEqual(sorted(now), sorted(book.kept()))
    test.assertEqual(list(now), sorted(now))
    by_number = {one.numbered(): one for one in orders}
    test.assertTrue(all(slot in fits(book.hall(), by_number[number]) for number, slot in now.items()))
    test.assertEqual(len(set(now.values())), len(now))
    come = tuple(number for number in sorted(now) if number not in ahead)
    gone = tuple(number for number in sorted(ahead) if number not in now)
    moved = tuple((number, ahead[number], now[number]) for number in sorted(now)
                  if number in ahead and ahead[number] != now[number])
    test.assertEqual(change, (come, gone, moved))
    test.assertTrue(len(come) <= 1 and len(gone) <= 1 and len(wanderers(book.hall(), ahead, now)) <= 1)
    test.assertTrue(is_fewest_paper(book.hall(), orders, list(ahead.items()), list(now.items()), book.levels()))


def moves_fewest(test, book, ahead, change):
    """That no dealing of those that are kept now moves fewer of them, by a search."""
    orders = [one for one in book.orders() if one.numbered() in book.kept()]
    test.assertEqual(len(change[2]), fewest_moved(book.hall(), orders, dict(ahead)))


def stand(book):
    """All that a nightbook tells."""
    return (book.hall(), book.orders(), book.kept(), book.dealing(), book.levels(), len(book))
