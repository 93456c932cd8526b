"""Houses for tests, and one that is kept by hand: plain dicts, from which all else is made anew each time."""

import random

from bindbench.benches import Bench, Plan
from bindbench.dealings import kept
from bindbench.errors import Already, BadValue, CantBe, NoSuch, TooMany
from bindbench.halls import Hall, Order
from bindbench.houses import House
from bindbench.styles import Job, Style
from bindbench.stuffs import Stock
from stockwork import some_pages

CALF = Style("calf", [("sew", 6, 0), ("press", 12, 8), ("glue", 2, 24)])
CLOTH = Style("cloth", [("sew", 3, 0), ("cover", 1, 0)])
REFUSALS = (BadValue, NoSuch, Already, TooMany, CantBe)


def small_house():
    return House(Bench(1, 1), Hall([10, 20], [(3, 1)]), [CALF, CLOTH])


def job_deed(number, due=200, brought=0, haste=False, name="cloth"):
    return ("job", number, name, brought, due, haste)


def house_of(*deeds):
    house = small_house()
    for deed in deeds:
        house.do(deed)
    return house


def house_told(house):
    """All that a house tells of how it stands, but what could be taken back or done again."""
    book, stock = house.nightbook(), house.stock()
    numbers = [one.numbered() for one in house.plan().jobs()]
    return (str(house.plan()), house.plan().jobs(), [house.order(number) for number in numbers], str(book.hall()),
            book.orders(), book.kept(), book.dealing(), book.levels(), stock.pages(), stock.lots(), stock.sets(True),
            house.verdicts(), len(house))


def refused_by(ask, *told):
    """What a question answers, or by what it is refused: (answer, None) or (None, (class, fields))."""
    try:
        return ask(*told), None
    except REFUSALS as error:
        return None, (type(error), vars(error))


class Reckoned:
    """A house as the points tell it, but for which slot each order has."""

    def __init__(self, bench, hall, styles):
        self.bench, self.sizes = bench, hall.sizes()
        self.styles = {style.named(): style for style in styles}
        self.stand = ({}, {}, hall.lost(), [])
        self.ahead, self.behind = [], []

    def jobs(self):
        return [Job(number, self.styles[name], brought, due, haste)
                for number, (name, brought, due, haste) in self.stand[0].items()]

    def orders(self):
        by_number = {one.numbered(): one for one in self.jobs()}
        return [Order(by_number[number], *wants) for number, wants in self.stand[1].items()]

    def plan(self):
        return Plan(self.bench, self.jobs())

    def hall(self):
        return Hall(self.sizes, self.stand[2])

    def stock(self):
        stock = Stock()
        for page in self.stand[3]:
            stock.put(page)
        return stock

    def refusal(self, deed):
        """By which a deed is refused that is one by its form: (class, fields), or None."""
        jobs, orders, lost, pages = self.stand
        word = deed[0]
        if word == "job" and deed[2] not in self.styles:
            return NoSuch, {"what": "style", "name": deed[2]}
        if word == "job" and deed[1] in jobs:
            return Already, {"what": "job", "name": deed[1]}
        if word == "job" and len(jobs) == 40:
            return TooMany, {"most": 40}
        if word in ("order", "haste", "gone") and deed[1] not in jobs:
            return NoSuch, {"what": "job", "name": deed[1]}
        if word == "order" and deed[1] in orders:
            return Already, {"what": "order", "name": deed[1]}
        if word in ("lost", "found") and not (self.hall().is_slot(deed[1]) or deed[1] in lost):
            return NoSuch, {"what": "slot", "name": deed[1]}
        if word == "lost" and deed[1] not in lost and len(lost) == 100:
            return TooMany, {"most": 100}
        if word == "found" and deed[1] not in lost:
            return NoSuch, {"what": "slot", "name": deed[1]}
        if word == "page":
            return refused_by(self.stock().put, deed[1])[1]
        if word == "back" and not self.ahead or word == "again" and not self.behind:
            return CantBe, {"about": word}
        return None

    def do(self, deed):
        """Does a deed that isn't refused."""
        stand = self.stand
        if deed[0] == "back":
            self.behind.append(stand)
            self.stand = self.ahead.pop()
        elif deed[0] == "again":
            self.ahead.append(stand)
            self.stand = self.behind.pop()
        else:
            jobs, orders, lost, pages = dict(stand[0]), dict(stand[1]), list(stand[2]), list(stand[3])
            self.change(jobs, orders, lost, pages, deed)
            self.stand = (jobs, orders, lost, pages)
            if self.stand != stand:
                self.ahead.append(stand)
                self.behind = []

    @staticmethod
    def change(jobs, orders, lost, pages, deed):
        word, *told = deed
        if word == "job":
            jobs[told[0]] = tuple(told[1:])
        elif word == "order":
            orders[told[0]] = tuple(told[1:])
        elif word == "haste":
            jobs[told[0]] = jobs[told[0]][:3] + (told[1],)
        elif word == "gone":
            del jobs[told[0]]
            orders.pop(told[0], None)
        elif word == "lost" and told[0] not in lost:
            lost.append(told[0])
            lost.sort()
        elif word == "found":
            lost.remove(told[0])
        elif word == "page" and told[0] not in pages:
            pages.append(told[0])

    def kept(self):
        return kept(self.hall(), self.orders())

    def moves(self, plan_ahead, slots_ahead, lots_ahead, house):
        """The moves from what was told ahead to how a house, which stands as this one, stands now."""
        plan, slots, lots = house.plan(), dict(house.nightbook().dealing()), lots_of(house)
        both = [number for number in numbers_of(plan) if number in numbers_of(plan_ahead)]
        found = [("bench", number) for number in both if rows_of(plan, number) != rows_of(plan_ahead, number)]
        found += [("in", number) for number in slots if number not in slots_ahead]
        found += [("out", number) for number in slots_ahead if number not in slots]
        found += [("slot", number) for number in slots
                  if number in slots_ahead and slots[number] != slots_ahead[number]]
        found += [("set", name) for name in {*lots, *lots_ahead} if lots.get(name) != lots_ahead.get(name)]
        return tuple(sorted(found))


def numbers_of(plan):
    return [one.numbered() for one in plan.jobs()]


def rows_of(plan, number):
    return [row[2:] for row in plan.rows(number)]


def lots_of(house):
    stock = house.stock()
    return {name: stock.lot_of(name) for name in stock.sets() if stock.lot_of(name) is not None}


def some_deed(dice, pages):
    """A deed by its form; now and then one that a house would refuse, or by which nothing changes."""
    word = dice.choice(["job"] * 5 + ["order"] * 5 + ["haste"] * 3 + ["gone"] * 2 + ["lost"] * 3 + ["found"] * 2
                       + ["page"] * 6 + ["back"] * 4 + ["again"] * 3)
    number = dice.randint(1, 9)
    if word == "job":
        brought = dice.randint(0, 20)
        return (word, number, dice.choice(["calf", "cloth", "cloth", "linen"]), brought, brought + dice.randint(0, 60),
                dice.random() < 0.3)
    if word == "order":
        first = dice.randint(0, 2)
        return (word, number, dice.choice([5, 10, 15, 25]), first, first + dice.choice([0, 0, 1, 2]))
    if word == "haste":
        return (word, number, dice.random() < 0.6)
    if word == "gone":
        return (word, number)
    if word in ("lost", "found"):
        return (word, (dice.randint(0, 3), dice.choice([1, 1, 2, 2, 3])))
    if word == "page":
        return (word, dice.choice(pages))
    return (word,)


def some_deeds(seed, many):
    """So many deeds, always the same ones of a seed."""
    dice = random.Random(seed)
    pages = some_pages(dice, 14) + [("lot", 3, "red", "q", 1), ("set", 3, "q", "red", ((1, 1),)), None]
    return [some_deed(dice, pages) for _ in range(many)]
