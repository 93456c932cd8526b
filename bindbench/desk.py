"""A desk that answers lines by texts: first what a house is made of, then what is done and asked there."""

from bindbench.benches import Bench
from bindbench.errors import Already, BadText, BadValue, CantBe, NoSuch, TooMany
from bindbench.halls import MOST_SIZE, Hall
from bindbench.houses import MOST_STYLES, House
from bindbench.reading import read_style
from bindbench.stuffs import read_page
from bindbench.words import is_hour, is_number, number_of, words_of

DONE = "done"
NONE = "none"
BETWEEN = " ; "


def _told(words):
    """Words, NUMBERS, too, with blanks between."""
    return " ".join([str(word) for word in words])


def _rows_told(rows):
    """Rows of words, or that there are none."""
    if len(rows) == 0:
        return NONE
    return BETWEEN.join([_told(row) for row in rows])


def _numbers(words):
    """The numbers that words tell, None for each that tells none."""
    return [number_of(word) for word in words]


# Each of these tells a DEED, or what is none by its form, which the house refuses.


def _job_deed(words):
    if words[5:] not in ([], ["haste"]) or len(words) < 5:
        return None
    number, brought, due = _numbers([words[1], words[3], words[4]])
    return ("job", number, words[2], brought, due, len(words) == 6)


def _order_deed(words):
    return tuple(["order"] + _numbers(words[1:]))


def _haste_deed(words):
    return tuple(["haste"] + _numbers(words[1:]) + [True])


def _calm_deed(words):
    return tuple(["haste"] + _numbers(words[1:]) + [False])


def _gone_deed(words):
    return tuple(["gone"] + _numbers(words[1:]))


def _slot_deed(words):
    slot = tuple(_numbers(words[1:]))
    if len(slot) != 2 or None in slot:
        return None
    return (words[0], slot)


def _page_deed(words):
    page = read_page(_told(words))
    return None if page is None else ("page", page)


def _word_deed(words):
    return tuple(words)


DEEDS = {
    "job": _job_deed, "order": _order_deed, "haste": _haste_deed, "calm": _calm_deed, "gone": _gone_deed,
    "lost": _slot_deed, "found": _slot_deed, "lot": _page_deed, "set": _page_deed, "spoil": _page_deed,
    "back": _word_deed, "again": _word_deed,
}


def _verdict(house, word):
    number = number_of(word)
    if not is_number(number):
        raise BadValue("line")
    told = []
    for part in house.verdict(number):
        if type(part) is tuple:
            told.extend(part)
        else:
            told.append(part)
    return _told(told)


def _at(house, word):
    hour = number_of(word)
    if not is_hour(hour):
        raise BadValue("line")
    return _rows_told([place + (number, step) for place, number, step in house.plan().at(hour)])


def _verdicts(house):
    return _rows_told([(number, verdict[0]) for number, verdict in house.verdicts()])


def _kept(house):
    numbers = house.nightbook().kept()
    if len(numbers) == 0:
        return NONE
    return _told(numbers)


def _dealt(house):
    return _rows_told([(number,) + slot for number, slot in house.nightbook().dealing()])


def _lots(house):
    return _rows_told(house.stock().lots())


QUESTIONS = {"verdicts": _verdicts, "kept": _kept, "dealt": _dealt, "lots": _lots}
QUESTIONS_OF_ONE = {"verdict": _verdict, "at": _at}


class Desk:
    """Lines are told to it, and it answers each."""

    def __init__(self):
        self._bench = Bench()
        self._hall = Hall([MOST_SIZE])
        self._styles = []
        self._house = None

    def say(self, line):
        """The answer to anything."""
        try:
            return self._answer(line)
        except BadText as unread:
            return f"bad word {unread.row} {unread.word}"
        except BadValue:
            return "no line"
        except TooMany as full:
            return f"full {full.most}"
        except NoSuch as missing:
            return f"no such {missing.what}"
        except Already as there:
            return f"already {there.what}"
        except CantBe:
            return "can't be"

    def _answer(self, line):
        if type(line) is not str or "\n" in line:
            raise BadValue("line")
        if self._house is None and line.startswith("style "):
            return self._take_style(line)
        words = words_of(line)
        if words is None:
            raise BadValue("line")
        if self._house is None:
            return self._prepare(words)
        return self._serve(words)

    def _take_style(self, line):
        style = read_style(line.replace(BETWEEN, "\n"))
        if len(self._styles) == MOST_STYLES:
            raise TooMany(MOST_STYLES)
        if style.named() in [other.named() for other in self._styles]:
            raise Already("style", style.named())
        self._styles.append(style)
        return DONE

    def _prepare(self, words):
        """Answers a line ahead of begin."""
        if words[0] == "bench" and len(words) == 3:
            hands, presses = _numbers(words[1:])
            self._bench = Bench(hands, presses)
        elif words[0] == "hall":
            self._hall = Hall(_numbers(words[1:]))
        elif words == ["begin"]:
            self._begin()
        else:
            raise BadValue("line")
        return DONE

    def _begin(self):
        if len(self._styles) == 0:
            raise NoSuch("style", None)
        self._house = House(self._bench, self._hall, self._styles)

    def _serve(self, words):
        """Answers a line behind begin."""
        telling = DEEDS.get(words[0])
        if telling is not None:
            return _rows_told([(DONE,)] + list(self._house.do(telling(words))))
        return self._ask(words)

    def _ask(self, words):
        """Answers a question."""
        if len(words) == 1 and words[0] in QUESTIONS:
            asking = QUESTIONS[words[0]]
            return asking(self._house)
        if len(words) == 2 and words[0] in QUESTIONS_OF_ONE:
            asking_of = QUESTIONS_OF_ONE[words[0]]
            return asking_of(self._house, words[1])
        raise BadValue("line")
