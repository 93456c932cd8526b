"""Pages that tell of stuffs and covers, and a stock in which covers are cut."""

from bindbench.cutting import Cutting
from bindbench.errors import Already, BadValue, NoSuch, TooMany
from bindbench.words import is_name, is_number, is_truth, is_whole, number_of, words_of

LAST_DAY = 9999
MOST_WANTS = 12
MOST_PAGES = 100


def _is_day(thing):
    return is_whole(thing, 0, LAST_DAY)


def _is_inches(thing):
    return is_whole(thing, 1)


def _is_want(thing):
    """Whether anything is a (NUMBER, INCHES)."""
    return type(thing) is tuple and len(thing) == 2 and is_number(thing[0]) and _is_inches(thing[1])


def _are_wants(thing):
    """Whether anything is the WANTS of a SET."""
    if type(thing) is not tuple or not 1 <= len(thing) <= MOST_WANTS or not all([_is_want(want) for want in thing]):
        return False
    numbers = [number for number, _ in thing]
    return numbers == sorted(set(numbers))


def _is_lot_page(page):
    if len(page) != 5:
        return False
    _, day, colour, lot, inches = page
    return _is_day(day) and is_name(colour) and is_name(lot) and _is_inches(inches)


def _is_set_page(page):
    if len(page) != 5:
        return False
    _, day, name, colour, wants = page
    return _is_day(day) and is_name(name) and is_name(colour) and _are_wants(wants)


def _is_spoil_page(page):
    if len(page) != 4:
        return False
    _, day, name, number = page
    return _is_day(day) and is_name(name) and is_number(number)


PAGE_FORMS = {"lot": _is_lot_page, "set": _is_set_page, "spoil": _is_spoil_page}


def is_page(thing):
    """Whether anything is a PAGE."""
    if type(thing) is not tuple or len(thing) == 0 or type(thing[0]) is not str:
        return False
    form = PAGE_FORMS.get(thing[0])
    return form is not None and form(thing)


def page_text(page):
    """The text of a PAGE."""
    words = []
    for part in page:
        if type(part) is tuple:
            for want in part:
                words.extend(want)
        else:
            words.append(part)
    return " ".join([str(word) for word in words])


def _lot_told(words):
    if len(words) != 5:
        return None
    return ("lot", number_of(words[1]), words[2], words[3], number_of(words[4]))


def _set_told(words):
    if len(words) < 4:
        return None
    numbers = [number_of(word) for word in words[4:]]
    # Where the INCHES of the last WANT lack it is told without them, and so is none.
    wants = [tuple(numbers[place:place + 2]) for place in range(0, len(numbers), 2)]
    return ("set", number_of(words[1]), words[2], words[3], tuple(wants))


def _spoil_told(words):
    if len(words) != 4:
        return None
    return ("spoil", number_of(words[1]), words[2], number_of(words[3]))


PAGES_TOLD = {"lot": _lot_told, "set": _set_told, "spoil": _spoil_told}


def read_page(text):
    """The PAGE that a text tells, None of what is no text of one."""
    words = words_of(text)
    if words is None:
        return None
    told = PAGES_TOLD.get(words[0])
    if told is None:
        return None
    page = told(words)
    if not is_page(page):
        return None
    return page


class Stock:
    """PAGES, in whatever order they came, and what becomes of LOTS and SETS by them."""

    def __init__(self):
        self._pages = []
        self._cutting = Cutting([])

    def put(self, page):
        """Whether a PAGE is new; it is put in then."""
        if not is_page(page):
            raise BadValue("page")
        if page in self._pages:
            return False
        if page[0] == "lot" and self._cutting.has_lot(page[3]):
            raise Already("lot", page[3])
        if page[0] == "set" and self._cutting.has_set(page[2]):
            raise Already("set", page[2])
        if len(self._pages) == MOST_PAGES:
            raise TooMany(MOST_PAGES)
        # On one DAY "lot" goes ahead of "set", and that ahead of "spoil", as the words themselves do.
        self._pages = sorted(self._pages + [page], key=lambda one: (one[1], one))
        self._cutting = Cutting(self._pages)
        return True

    def pages(self):
        """A list of its PAGES, as they are gone through."""
        return list(self._pages)

    def lots(self):
        """A rising list of (LOT, INCHES left, on books, SPOILED)."""
        return self._cutting.lots()

    def _refuse_no_set(self, name):
        if type(name) is not str or not self._cutting.has_set(name):
            raise NoSuch("set", name)

    def lot_of(self, name):
        """The LOT of which a SET is CUT, None while it WAITS."""
        self._refuse_no_set(name)
        return self._cutting.lot_of(name)

    def lacks(self, name):
        """The INCHES that a SET LACKS, 0 where it is CUT."""
        self._refuse_no_set(name)
        return self._cutting.lacks(name)

    def covers(self, name):
        """A list of the (NUMBER, INCHES) of a SET's covers."""
        self._refuse_no_set(name)
        return self._cutting.covers(name)

    def sets(self, waiting=None):
        """A rising list of the SETS, or of those that WAIT, or are CUT, alone."""
        if waiting is not None and not is_truth(waiting):
            raise BadValue("waiting")
        return self._cutting.sets(waiting)

    def copy(self):
        """Another one that goes on by itself."""
        other = Stock()
        other._pages = list(self._pages)
        # What was gone through isn't changed any more.
        other._cutting = self._cutting
        return other

    def __eq__(self, other):
        return type(other) is Stock and self._pages == other._pages

    def __len__(self):
        return len(self._pages)
