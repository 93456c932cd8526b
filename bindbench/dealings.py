"""Which orders are kept and which put off, and a nightbook in which as few as can be are moved."""

from bindbench.errors import Already, BadValue, NoSuch, TooMany
from bindbench.giving import MOST_ORDERS, Given, deal, refuse_bad_orders
from bindbench.halls import Hall, Order
from bindbench.styles import by_rank


def kept(hall, orders):
    """The NUMBERS of the KEPT ORDERS, rising by RANK."""
    refuse_bad_orders(hall, orders)
    dealt, _ = deal(hall, orders)
    return _numbers_in(orders, dealt)


def put_off(hall, orders):
    """The NUMBERS of the ORDERS that are PUT OFF, rising by RANK."""
    refuse_bad_orders(hall, orders)
    _, off = deal(hall, orders)
    return _numbers_in(orders, off)


def bars(hall, orders, number):
    """The BARS of an ORDER that is PUT OFF, and the FULL SLOTS."""
    refuse_bad_orders(hall, orders)
    _, off = deal(hall, orders)
    if type(number) is not int or number not in off:
        raise NoSuch("order", number)
    return off[number]


def _numbers_in(orders, table):
    """The NUMBERS, rising by RANK, of those ORDERS that stand in a table."""
    return [order.numbered() for order in by_rank(orders) if order.numbered() in table]


def change_of(ahead, now):
    """The CHANGE from the SLOTS ahead, by NUMBER, to those now."""
    come = tuple([number for number in sorted(now) if number not in ahead])
    gone = tuple([number for number in sorted(ahead) if number not in now])
    both = [number for number in sorted(now) if number in ahead]
    return come, gone, tuple([(number, ahead[number], now[number]) for number in both if ahead[number] != now[number]])


class Nightbook:
    """ORDERS of a HALL, and a DEALING of those that are KEPT, which stays as far as it can."""

    def __init__(self, hall):
        if type(hall) is not Hall:
            raise BadValue("hall")
        self._hall = hall
        self._orders = {}
        self._slots = {}
        self._levels = ()

    def _turn_to(self, hall, orders):
        """Takes over HALL and ORDERS as they are now; the CHANGE."""
        ahead = self._slots
        dealt, _ = deal(hall, orders)
        given = Given(hall, orders)
        wanderers = []
        for number in dealt:
            if number in ahead and hall.is_slot(ahead[number]):
                given.give(number, ahead[number])
            else:
                wanderers.append(number)
        self._levels = ()
        # Of one deed there is one at most. All others have a SLOT still.
        for number in wanderers:
            self._levels = given.let_in(number)
        self._hall = hall
        self._orders = {order.numbered(): order for order in orders}
        self._slots = given.slots()
        return change_of(ahead, self._slots)

    def _refuse_no_order(self, number):
        if type(number) is not int or number not in self._orders:
            raise NoSuch("order", number)

    def _others(self, number):
        """Its ORDERS, but that of a NUMBER."""
        return [order for order in self.orders() if order.numbered() != number]

    def bring(self, order):
        """An ORDER comes; the CHANGE."""
        if type(order) is not Order:
            raise BadValue("order")
        if order.numbered() in self._orders:
            raise Already("order", order.numbered())
        if len(self._orders) == MOST_ORDERS:
            raise TooMany(MOST_ORDERS)
        return self._turn_to(self._hall, self.orders() + [order])

    def drop(self, number):
        """An ORDER goes; the CHANGE."""
        self._refuse_no_order(number)
        return self._turn_to(self._hall, self._others(number))

    def hasten(self, number, haste=True):
        """An ORDER gets HASTE or loses it; the CHANGE."""
        self._refuse_no_order(number)
        order = self._orders[number].hastened(haste)
        return self._turn_to(self._hall, self._others(number) + [order])

    def lose(self, slot):
        """A SLOT is LOST; the CHANGE."""
        if self._hall.is_lost(slot):
            return self._turn_to(self._hall, self.orders())
        return self._turn_to(self._hall.with_lost(slot), self.orders())

    def restore(self, slot):
        """A SLOT is LOST no more; the CHANGE."""
        return self._turn_to(self._hall.with_found(slot), self.orders())

    def hall(self):
        """The HALL as it is now."""
        return self._hall

    def orders(self):
        """A list of its ORDERS, rising by RANK."""
        return by_rank(list(self._orders.values()))

    def kept(self):
        """The NUMBERS of the KEPT ORDERS, rising by RANK."""
        return _numbers_in(self.orders(), self._slots)

    def dealing(self):
        """A list of (NUMBER, SLOT) of the KEPT ORDERS, rising."""
        return [(number, self._slots[number]) for number in sorted(self._slots)]

    def slot_of(self, number):
        """The SLOT of an ORDER, None where it is PUT OFF."""
        self._refuse_no_order(number)
        return self._slots.get(number)

    def levels(self):
        """A PAPER that none has fewer MOVED than the last deed's CHANGE."""
        return self._levels

    def copy(self):
        """Another one that stands likewise and goes on by itself."""
        other = Nightbook(self._hall)
        other._orders = dict(self._orders)
        other._slots = dict(self._slots)
        other._levels = self._levels
        return other

    def __eq__(self, other):
        return type(other) is Nightbook and self._hall == other._hall and self._orders == other._orders

    def __len__(self):
        return len(self._slots)
