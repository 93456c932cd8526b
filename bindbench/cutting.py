"""What becomes of LOTS and SETS when PAGES are gone through."""


class Lot:
    """A LOT that has come, and where its INCHES are."""

    def __init__(self, colour, inches):
        self.colour = colour
        self.left = inches
        self.on_books = 0
        self.spoiled = 0

    def cut(self, inches):
        """So much of what is left goes on books."""
        self.left = self.left - inches
        self.on_books = self.on_books + inches

    def spoil(self, inches):
        """So much of what is on books is SPOILED."""
        self.on_books = self.on_books - inches
        self.spoiled = self.spoiled + inches


class Covers:
    """A SET that has come: its WANTS, and of which LOT it is CUT, None while it WAITS."""

    def __init__(self, colour, wants):
        self.colour = colour
        self.wanted = wants
        self.inches = sum([inches for _, inches in wants])
        self.lot_name = None


class Cutting:
    """PAGES that were gone through one behind the other, in their order."""

    def __init__(self, pages):
        self._lots = {}
        self._sets = {}
        for page in pages:
            self._go_through(page)

    def _go_through(self, page):
        if page[0] == "lot":
            _, _, colour, name, inches = page
            self._lots[name] = Lot(colour, inches)
            # SETS of other COLOURS could not be CUT ahead of this PAGE, and have nothing more to be CUT of now.
            self._cut_what_waits(colour)
        elif page[0] == "set":
            _, _, name, colour, wants = page
            self._sets[name] = Covers(colour, wants)
            self._cut_what_waits(colour)
        else:
            _, _, name, number = page
            self._spoil(name, number)

    def _lots_of(self, colour):
        return [(lot.left, name) for name, lot in self._lots.items() if lot.colour == colour]

    def _cut_what_waits(self, colour):
        """Cuts the SETS of a COLOUR that WAIT and can be CUT, in the order of their PAGES, that in which they came."""
        for one in list(self._sets.values()):
            if one.colour == colour and one.lot_name is None:
                enough = [(left, name) for left, name in self._lots_of(colour) if left >= one.inches]
                if len(enough) > 0:
                    _, name = min(enough)
                    one.lot_name = name
                    self._lots[name].cut(one.inches)

    def _spoil(self, name, number):
        """A cover is spoiled, if it is one of a SET that is CUT."""
        one = self._sets.get(name)
        if one is None or one.lot_name is None:
            return
        spoiled = [inches for its_number, inches in one.wanted if its_number == number]
        if len(spoiled) == 0:
            return
        lot = self._lots[one.lot_name]
        inches = spoiled[0]
        if lot.left >= inches:
            lot.spoil(inches)
            lot.cut(inches)
        else:
            lot.spoil(one.inches)
            one.lot_name = None
            self._cut_what_waits(one.colour)

    def has_lot(self, name):
        """Whether a LOT has come."""
        return name in self._lots

    def has_set(self, name):
        """Whether a SET has come."""
        return name in self._sets

    def lots(self):
        """A rising list of (LOT, INCHES left, on books, SPOILED)."""
        told = [(name, lot.left, lot.on_books, lot.spoiled) for name, lot in self._lots.items()]
        return sorted(told)

    def sets(self, waiting):
        """A rising list of the SETS, or of those that WAIT, or are CUT, alone."""
        told = [(name, one.lot_name is None) for name, one in self._sets.items()]
        return sorted([name for name, waits in told if waiting is None or waiting == waits])

    def lot_of(self, name):
        """The LOT of which a SET is CUT, None while it WAITS."""
        return self._sets[name].lot_name

    def lacks(self, name):
        """The INCHES that a SET LACKS, 0 where it is CUT."""
        one = self._sets[name]
        if one.lot_name is not None:
            return 0
        return one.inches - max([left for left, _ in self._lots_of(one.colour)], default=0)

    def covers(self, name):
        """A list of the (NUMBER, INCHES) of a SET's covers."""
        return list(self._sets[name].wanted)
