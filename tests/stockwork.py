"""Pages for tests, and what becomes of them by going through them in the words of [59] and [60]."""

import random

from bindbench.stuffs import Stock

COLOURS = ["red", "blue"]


def lot(day, name, inches, colour="red"):
    return ("lot", day, colour, name, inches)


def wanted(day, name, *wants, colour="red"):
    return ("set", day, name, colour, wants)


def spoil(day, name, number):
    return ("spoil", day, name, number)


def stock_of(*pages):
    stock = Stock()
    for page in pages:
        stock.put(page)
    return stock


def letters(number):
    """A name for each number, in an order of its own."""
    return "".join("qxazmpkebw"[int(figure)] for figure in str(number))


def some_pages(dice, many):
    """So many pages, of a few colours, days and inches, so that sets wait and covers can't be cut anew."""
    pages = []
    sets = []
    while len(pages) < many:
        word = dice.choice(["lot", "lot", "set", "set", "spoil", "spoil", "spoil"])
        day = dice.randint(0, 5)
        if word == "lot":
            page = lot(day, letters(len(pages)), dice.choice([5, 8, 10, 12, 20, 30]), dice.choice(COLOURS))
        elif word == "set":
            chosen = sorted(dice.sample(range(1, 9), dice.randint(1, 4)))
            page = wanted(day, letters(len(pages)), *[(number, dice.randint(1, 6)) for number in chosen],
                          colour=dice.choice(COLOURS))
            sets.append(page)
        else:
            of = dice.choice(sets) if sets and dice.random() < 0.9 else wanted(day, "nobody", (3, 1))
            number = dice.choice(of[4])[0] if dice.random() < 0.9 else 9
            page = spoil(min(9, of[1] + dice.choice([-1, 0, 0, 1, 2])), of[2], number)
        if page not in pages and page[1] >= 0:
            pages.append(page)
    return pages


def some_stocks(seed, many=80, most=24):
    """So many lists of pages, always the same ones of a seed."""
    dice = random.Random(seed)
    for _ in range(many):
        yield some_pages(dice, dice.randint(0, most))


class Counted:
    """What a stock has to tell: covers one by one, each with its lot."""

    def __init__(self, pages):
        kinds = ["lot", "set", "spoil"]
        self.pages = sorted(pages, key=lambda page: (page[1], kinds.index(page[0]), page))
        self.came, self.sets = {}, []
        # Of each cover that was cut so far: (SET, NUMBER, INCHES, LOT, SPOILED or not).
        self.covers = []
        for page in self.pages:
            if page[0] == "lot":
                self.came[page[3]] = page
            elif page[0] == "set":
                self.sets.append(page)
            else:
                self.spoil(page)
            for one in self.sets:
                self.cut(one)

    def left(self, name):
        return self.came[name][4] - sum(cover[2] for cover in self.covers if cover[3] == name)

    def on_books(self, name):
        return sum(cover[2] for cover in self.covers if cover[3] == name and not cover[4])

    def spoiled(self, name):
        return sum(cover[2] for cover in self.covers if cover[3] == name and cover[4])

    def lot_of(self, name):
        lots = {cover[3] for cover in self.covers if cover[0] == name and not cover[4]}
        # The covers of a set are of one lot.
        assert len(lots) <= 1
        return lots.pop() if lots else None

    def lots_of(self, colour):
        return [name for name, page in self.came.items() if page[2] == colour]

    def cut(self, one):
        _, _, name, colour, wants = one
        need = sum(inches for _, inches in wants)
        enough = [(self.left(other), other) for other in self.lots_of(colour) if self.left(other) >= need]
        if self.lot_of(name) is None and enough:
            self.covers += [[name, number, inches, min(enough)[1], False] for number, inches in wants]

    def spoil(self, page):
        _, _, name, number = page
        lot_name = self.lot_of(name)
        found = [cover for cover in self.covers if cover[:2] == [name, number] and not cover[4]]
        if found:
            found[0][4] = True
            if self.left(lot_name) >= found[0][2]:
                self.covers.append([name, number, found[0][2], lot_name, False])
            else:
                for cover in self.covers:
                    if cover[0] == name:
                        cover[4] = True

    def lacks(self, one):
        _, _, name, colour, wants = one
        if self.lot_of(name) is not None:
            return 0
        return sum(inches for _, inches in wants) - max([self.left(other) for other in self.lots_of(colour)] + [0])

    def lots(self):
        return [(name, self.left(name), self.on_books(name), self.spoiled(name)) for name in sorted(self.came)]

    def told(self):
        """All that stock_told tells of a stock."""
        names = sorted(one[2] for one in self.sets)
        waiting = [name for name in names if self.lot_of(name) is None]
        return (self.pages, self.lots(), names, waiting, [name for name in names if name not in waiting],
                {one[2]: (self.lot_of(one[2]), self.lacks(one), list(one[4])) for one in self.sets}, len(self.pages))


def stock_told(stock):
    """All that a stock tells."""
    return (stock.pages(), stock.lots(), stock.sets(), stock.sets(True), stock.sets(False),
            {name: (stock.lot_of(name), stock.lacks(name), stock.covers(name)) for name in stock.sets()}, len(stock))
