"""Papers that tell which orders are kept, and the most that can be, so that anybody can check them."""

from bindbench.errors import BadValue
from bindbench.giving import deal, refuse_bad_orders
from bindbench.halls import Order, is_night


def refuse_bad_nights(first, last):
    """Refuses what is no NIGHT, then what is no NIGHT from that on."""
    if not is_night(first):
        raise BadValue("first")
    if not is_night(last, first):
        raise BadValue("last")


def within(order, first, last):
    """An ORDER that FITS where this one does on NIGHTS from first to last, None where these have none of its own."""
    size, its_first, its_last = order.wants()
    if its_last < first or its_first > last:
        return None
    return Order(order.of_job(), size, max(first, its_first), min(last, its_last))


def all_within(orders, first, last):
    """The ORDERS that have NIGHTS from first to last, with these alone."""
    narrowed = [within(order, first, last) for order in orders]
    return [order for order in narrowed if order is not None]


def _dealing_of(dealt):
    return tuple([(number, dealt[number]) for number in sorted(dealt)])


def kept_paper(hall, orders):
    """A PAPER of the KEPT ORDERS: a DEALING of them, and the BARS and FULL SLOTS of each that is PUT OFF."""
    refuse_bad_orders(hall, orders)
    dealt, off = deal(hall, orders)
    rows = []
    for number in sorted(off):
        bars, slots = off[number]
        rows.append((number, tuple(bars), tuple(slots)))
    return _dealing_of(dealt), tuple(rows)


def most_paper(hall, orders, first, last):
    """A PAPER of the MOST ORDERS from a NIGHT to another: a DEALING, and NUMBERS and SLOTS, together as many."""
    refuse_bad_orders(hall, orders)
    refuse_bad_nights(first, last)
    # As many are KEPT as there is a DEALING of. FULL SLOTS are as many as their BARS, and beside these nobody FITS
    # in them alone that isn't PUT OFF: so the others, and all FULL SLOTS, are as many as are dealt.
    dealt, off = deal(hall, all_within(orders, first, last))
    barring = {}
    full = {}
    for bars, slots in off.values():
        for number in bars:
            barring[number] = True
        for slot in slots:
            full[slot] = True
    return _dealing_of(dealt), tuple([number for number in sorted(dealt) if number not in barring]), tuple(sorted(full))
