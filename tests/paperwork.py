"""What the points ask of a paper, asked in their words, whoever made it."""

from hallwork import fits


def is_rising(things):
    return all(one < other for one, other in zip(things, things[1:]))


def is_number(thing):
    return type(thing) is int and 1 <= thing <= 99999


def is_slot_of(hall, thing):
    """Whether a thing is a slot of a hall, lost or not."""
    return (type(thing) is tuple and len(thing) == 2 and all(type(part) is int for part in thing)
            and 0 <= thing[0] <= 99999 and 1 <= thing[1] <= len(hall.sizes()))


def is_tuple_of(thing, asked):
    return type(thing) is tuple and all(asked(part) for part in thing)


def is_dealing_told(hall, thing):
    """Whether a thing is rows (NUMBER, SLOT), rising, no slot twice, whoever fits there."""
    rows_so = is_tuple_of(thing, lambda row: type(row) is tuple and len(row) == 2
                          and is_number(row[0]) and is_slot_of(hall, row[1]))
    return rows_so and is_rising([row[0] for row in thing]) and len({row[1] for row in thing}) == len(thing)


def is_dealing(hall, orders, thing):
    by_number = {one.numbered(): one for one in orders}
    if not is_dealing_told(hall, thing):
        return False
    return all(number in by_number and slot in fits(hall, by_number[number]) for number, slot in thing)


def all_in(hall, orders):
    """All slots in which one of the orders fits, rising."""
    return sorted({slot for one in orders for slot in fits(hall, one)})


def is_row_off(hall, by_number, dealt, row):
    if type(row) is not tuple or len(row) != 3 or not is_number(row[0]) or row[0] not in by_number:
        return False
    number, bars, slots = row
    if not is_tuple_of(bars, is_number) or not is_tuple_of(slots, lambda slot: is_slot_of(hall, slot)):
        return False
    one = by_number[number]
    if not is_rising(bars) or not all(bar in dealt and by_number[bar].rank() < one.rank() for bar in bars):
        return False
    wanted = all_in(hall, [one] + [by_number[bar] for bar in bars])
    return list(slots) == wanted and len(slots) == len(bars)


def is_kept_paper(hall, orders, paper):
    """What [53] asks."""
    if type(paper) is not tuple or len(paper) != 2:
        return False
    dealing, off = paper
    by_number = {one.numbered(): one for one in orders}
    if not is_dealing(hall, orders, dealing):
        return False
    dealt = [number for number, _ in dealing]
    if not is_tuple_of(off, lambda row: is_row_off(hall, by_number, dealt, row)):
        return False
    others = [row[0] for row in off]
    return is_rising(others) and sorted(dealt + others) == sorted(by_number)


def is_most_paper(hall, orders, first, last, paper):
    """What [56] asks."""
    if type(paper) is not tuple or len(paper) != 3:
        return False
    dealing, numbers, slots = paper
    told = [one.numbered() for one in orders]
    if not is_dealing(hall, orders, dealing) or not all(first <= night <= last for _, (night, _) in dealing):
        return False
    if not is_tuple_of(numbers, lambda number: is_number(number) and number in told) or not is_rising(numbers):
        return False
    if not is_tuple_of(slots, lambda slot: is_slot_of(hall, slot)) or not is_rising(slots):
        return False
    wanted = [slot for slot in all_in(hall, [one for one in orders if one.numbered() not in numbers])
              if first <= slot[0] <= last]
    such = [slot for slot in slots if first <= slot[0] <= last and slot not in hall.lost()]
    return (len(numbers) + len(slots) == len(dealing) and len(such) == len(slots)
            and all(slot in slots for slot in wanted))


def is_ahead(hall, orders, thing):
    """Whether a thing is a dealing ahead: of these orders and others, whatever was lost."""
    if type(thing) not in (list, tuple) or not is_dealing_told(hall, tuple(thing)):
        return False
    by_number = {one.numbered(): one for one in orders}
    for number, (night, frame) in thing:
        if number in by_number:
            size, first, last = by_number[number].wants()
            if not first <= night <= last or hall.sizes()[frame - 1] < size:
                return False
    return True


def wanderers(hall, ahead, now):
    return [number for number in now if number not in ahead or ahead[number] in hall.lost()]


def is_fewest_paper(hall, orders, ahead, now, paper):
    """What [55] asks, and the interface of the dealings ahead and now."""
    if not is_ahead(hall, orders, ahead) or type(now) not in (list, tuple):
        return False
    if not is_dealing(hall, orders, tuple(now)):
        return False
    ahead, now = dict(ahead), dict(now)
    moved = [number for number in now if number in ahead and ahead[number] != now[number]]
    found = wanderers(hall, ahead, now)
    if not found:
        return type(paper) is tuple and paper == () and not moved
    if len(found) > 1 or not is_tuple_of(paper, lambda level: is_tuple_of(level, lambda slot: is_slot_of(hall, slot))):
        return False
    if len(paper) != len([number for number in moved if number not in found]):
        return False
    return not paper or are_levels(hall, orders, ahead, now, found[0], paper)


def are_levels(hall, orders, ahead, now, wanderer, paper):
    by_number = {one.numbered(): one for one in orders}
    holders = {slot: number for number, slot in ahead.items() if number in now}
    if not all(is_rising(level) and all(slot in holders for slot in level) for level in paper):
        return False
    if not all(slot in paper[0] for slot in fits(hall, by_number[wanderer])):
        return False
    for place in range(len(paper) - 1):
        reached = [slot for level in paper[:place + 2] for slot in level]
        for slot in paper[place]:
            if not all(other in reached for other in fits(hall, by_number[holders[slot]])):
                return False
    return True
