"""Reads the texts of styles, jobs and rounds."""

from bindbench.errors import BadText
from bindbench.rounds import MOST_CALL_HOURS, MOST_CALLS, MOST_LENGTH, Round
from bindbench.styles import MOST_STEPS, Job, Style
from bindbench.words import (
    FIRST_NUMBER, LAST_NUMBER, MOST_STEP_HOURS, is_name, is_whole, kind_of, number_of, words_of,
)


class Row:
    """A row of a text, whose words are taken one behind the other; the first that can't stand is refused."""

    def __init__(self, place, text):
        words = words_of(text)
        if words is None:
            raise BadText(place, 0)
        self._place = place
        self._words = words
        self._passed = 0

    def has_more(self):
        """Whether it has words that aren't taken yet."""
        return self._passed < len(self._words)

    def refuse_next(self):
        """Refuses the next word, or one behind the last."""
        raise BadText(self._place, self._passed + 1)

    def _next_word(self):
        # No word is empty, and the empty text can't stand for any: it tells that words lack.
        if self.has_more():
            return self._words[self._passed]
        return ""

    def _pass_by(self, stands):
        if not stands:
            self.refuse_next()
        self._passed += 1

    def take_word(self, wanted):
        """Takes just this word."""
        self._pass_by(self._next_word() == wanted)

    def take_name(self):
        """A NAME."""
        name = self._next_word()
        self._pass_by(is_name(name))
        return name

    def take_work(self):
        """A WORK."""
        work = self._next_word()
        self._pass_by(kind_of(work) is not None)
        return work

    def take_whole(self, least, most=10 ** 6):
        """A whole number from least to most."""
        number = number_of(self._next_word())
        self._pass_by(is_whole(number, least, most))
        return number

    def end(self):
        """Refuses the first word too many."""
        if self.has_more():
            self.refuse_next()


def _rows_of(text):
    """The rows of a text; refuses what is none."""
    if type(text) is not str:
        raise BadText(0, 0)
    return text.split("\n")


def _later_row(place, text, most):
    """A row behind the first one, of which there may be so many."""
    row = Row(place, text)
    if place > most + 1:
        row.refuse_next()
    return row


def _step_of(row):
    """The STEP that a row tells."""
    work = row.take_work()
    hours = row.take_whole(1, MOST_STEP_HOURS)
    rest = row.take_whole(0, MOST_STEP_HOURS)
    row.end()
    return (work, hours, rest)


def _call_of(row, least, length):
    """The CALL that a row tells, its AT from least on and below LENGTH."""
    at = row.take_whole(least, length - 1)
    name = row.take_name()
    hours = row.take_whole(1, MOST_CALL_HOURS)
    row.end()
    return (at, name, hours)


def read_style(text):
    """The STYLE that a text tells."""
    rows = _rows_of(text)
    head = Row(1, rows[0])
    head.take_word("style")
    name = head.take_name()
    head.end()
    if len(rows) == 1:
        raise BadText(2, 1)
    steps = []
    for place, row in enumerate(rows[1:], start=2):
        steps.append(_step_of(_later_row(place, row, MOST_STEPS)))
    return Style(name, steps)


def read_job(style, text):
    """The JOB of a STYLE that a text tells."""
    if type(text) is not str:
        raise BadText(0, 0)
    # Of what is no STYLE no NAME is its own.
    name = style.named() if type(style) is Style else None
    row = Row(1, text)
    row.take_word("job")
    number = row.take_whole(FIRST_NUMBER, LAST_NUMBER)
    row.take_word(name)
    brought = row.take_whole(0)
    due = row.take_whole(brought)
    haste = row.has_more()
    if haste:
        row.take_word("haste")
    row.end()
    return Job(number, style, brought, due, haste)


def read_round(text):
    """The ROUND that a text tells."""
    rows = _rows_of(text)
    head = Row(1, rows[0])
    head.take_word("round")
    length = head.take_whole(1, MOST_LENGTH)
    head.end()
    calls = []
    least = 0
    for place, row in enumerate(rows[1:], start=2):
        call = _call_of(_later_row(place, row, MOST_CALLS), least, length)
        calls.append(call)
        least = call[0]
    return Round(length, calls)
