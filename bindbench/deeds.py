"""Deeds of a house: which are some by their form, and how it stands behind one.

How a house stands is a Standing, which isn't changed: a deed gives another
one, or None where it changes nothing.
"""

from bindbench.benches import Plan
from bindbench.dealings import change_of
from bindbench.errors import Already, NoSuch
from bindbench.halls import Order, is_last, is_night, is_size
from bindbench.styles import Job
from bindbench.words import is_hour, is_name, is_number, is_truth


def _is_job_deed(deed):
    if len(deed) != 6:
        return False
    _, number, name, brought, due, haste = deed
    return is_number(number) and is_name(name) and is_hour(brought) and is_hour(due, brought) and is_truth(haste)


def _is_order_deed(deed):
    if len(deed) != 5:
        return False
    _, number, size, first, last = deed
    return is_number(number) and is_size(size) and is_night(first) and is_last(last, first)


def _is_haste_deed(deed):
    return len(deed) == 3 and is_number(deed[1]) and is_truth(deed[2])


def _is_gone_deed(deed):
    return len(deed) == 2 and is_number(deed[1])


def _is_of_anything(deed):
    return len(deed) == 2


def _is_word_alone(deed):
    return len(deed) == 1


DEED_FORMS = {
    "job": _is_job_deed, "order": _is_order_deed, "haste": _is_haste_deed, "gone": _is_gone_deed,
    "lost": _is_of_anything, "found": _is_of_anything, "page": _is_of_anything,
    "back": _is_word_alone, "again": _is_word_alone,
}


def is_deed(thing):
    """Whether anything is a DEED by its form."""
    if type(thing) is not tuple or len(thing) == 0 or type(thing[0]) is not str:
        return False
    form = DEED_FORMS.get(thing[0])
    return form is not None and form(thing)


class Standing:
    """A HOUSE as it is between two deeds."""

    def __init__(self, bench, styles, plan, nightbook, stock):
        self._bench = bench
        self._styles = styles
        self._plan = plan
        self._nightbook = nightbook
        self._stock = stock

    def plan(self):
        """The PLAN, which never changes."""
        return self._plan

    def nightbook(self):
        """A NIGHTBOOK that stands as its own does."""
        return self._nightbook.copy()

    def stock(self):
        """A STOCK that stands as its own does."""
        return self._stock.copy()

    def bench(self):
        """The BENCH."""
        return self._bench

    def styles(self):
        """A list of the STYLES."""
        return list(self._styles.values())

    def style_named(self, name):
        """The STYLE of a NAME; refuses where there is none."""
        if name not in self._styles:
            raise NoSuch("style", name)
        return self._styles[name]

    def job_or_none(self, number):
        """The JOB of a NUMBER, or None."""
        for job in self._plan.jobs():
            if job.numbered() == number:
                return job
        return None

    def job_numbered(self, number):
        """The JOB of a NUMBER; refuses where there is none, of anything."""
        job = self.job_or_none(number) if is_number(number) else None
        if job is None:
            raise NoSuch("job", number)
        return job

    def order_or_none(self, number):
        """The ORDER of a JOB's NUMBER, or None."""
        for order in self._nightbook.orders():
            if order.numbered() == number:
                return order
        return None

    def with_jobs(self, jobs):
        """Another one, with these JOBS."""
        return self.with_plan(Plan(self._bench, jobs))

    def with_plan(self, plan):
        """Another one, with that PLAN."""
        return Standing(self._bench, self._styles, plan, self._nightbook, self._stock)

    def with_nightbook(self, nightbook):
        """Another one, with that NIGHTBOOK, which is its own now."""
        return Standing(self._bench, self._styles, self._plan, nightbook, self._stock)

    def with_stock(self, stock):
        """Another one, with that STOCK, which is its own now."""
        return Standing(self._bench, self._styles, self._plan, self._nightbook, stock)

    def slots(self):
        """The SLOT of each KEPT ORDER, by NUMBER."""
        return {number: slot for number, slot in self._nightbook.dealing()}

    def lots(self):
        """The LOT of each SET that is CUT, by NAME."""
        return {name: self._stock.lot_of(name) for name in self._stock.sets(False)}

    def __eq__(self, other):
        return (type(other) is Standing and self._styles == other._styles and self._plan == other._plan
                and self._nightbook == other._nightbook and self._stock == other._stock)


def _job_comes(standing, number, name, brought, due, haste):
    style = standing.style_named(name)
    if standing.job_or_none(number) is not None:
        raise Already("job", number)
    return standing.with_plan(standing.plan().with_job(Job(number, style, brought, due, haste)))


def _order_comes(standing, number, size, first, last):
    job = standing.job_numbered(number)
    book = standing.nightbook()
    book.bring(Order(job, size, first, last))
    return standing.with_nightbook(book)


def _haste_is_told(standing, number, haste):
    job = standing.job_numbered(number)
    if job.in_haste() == haste:
        return None
    others = [other for other in standing.plan().jobs() if other.numbered() != number]
    hastened = standing.with_jobs(others + [job.hastened(haste)])
    if standing.order_or_none(number) is None:
        return hastened
    book = standing.nightbook()
    book.hasten(number, haste)
    return hastened.with_nightbook(book)


def _job_goes(standing, number):
    left = standing.with_plan(standing.plan().without_job(number))
    if standing.order_or_none(number) is None:
        return left
    book = standing.nightbook()
    book.drop(number)
    return left.with_nightbook(book)


def _slot_is_lost(standing, slot):
    book = standing.nightbook()
    if book.hall().is_lost(slot):
        return None
    book.lose(slot)
    return standing.with_nightbook(book)


def _slot_is_found(standing, slot):
    book = standing.nightbook()
    book.restore(slot)
    return standing.with_nightbook(book)


def _page_comes(standing, page):
    stock = standing.stock()
    if not stock.put(page):
        return None
    return standing.with_stock(stock)


DOINGS = {
    "job": _job_comes, "order": _order_comes, "haste": _haste_is_told, "gone": _job_goes,
    "lost": _slot_is_lost, "found": _slot_is_found, "page": _page_comes,
}


def done(standing, deed):
    """How a HOUSE stands behind a DEED, but back and again; None where it changes nothing."""
    doing = DOINGS[deed[0]]
    told = deed[1:]
    return doing(standing, *told)


def moves(ahead, now):
    """The MOVES from one Standing to another."""
    found = [("bench", number) for number in ahead.plan().moved(now.plan())]
    come, gone, moved = change_of(ahead.slots(), now.slots())
    found.extend([("in", number) for number in come])
    found.extend([("out", number) for number in gone])
    found.extend([("slot", number) for number, _, _ in moved])
    lots_ahead = ahead.lots()
    lots_now = now.lots()
    for name in sorted(set(list(lots_ahead) + list(lots_now))):
        if lots_ahead.get(name) != lots_now.get(name):
            found.append(("set", name))
    return tuple(sorted(found))
