"""A house: jobs on a bench, orders in a hall and covers of a stock, and what is done with them, deed by deed."""

from bindbench.benches import Bench, Plan
from bindbench.dealings import Nightbook
from bindbench.deeds import Standing, done, is_deed, moves
from bindbench.errors import Already, BadValue, CantBe, NoSuch, TooMany, Untold
from bindbench.halls import Hall
from bindbench.stuffs import Stock
from bindbench.styles import Style
from bindbench.verdicts import Judge, is_verdict_word

MOST_STYLES = 12
MOST_DEEDS = 300


def _are_styles(thing):
    """Whether anything is a list or a tuple of the STYLES of a HOUSE."""
    if type(thing) not in (list, tuple) or not 1 <= len(thing) <= MOST_STYLES:
        return False
    if not all([type(style) is Style for style in thing]):
        return False
    return len(set([style.named() for style in thing])) == len(thing)


class House:
    """JOBS on a PLAN, ORDERS in a NIGHTBOOK and a STOCK, changed by DEEDS that can be taken back."""

    def __init__(self, bench, hall, styles):
        if type(bench) is not Bench:
            raise BadValue("bench")
        if type(hall) is not Hall:
            raise BadValue("hall")
        if not _are_styles(styles):
            raise BadValue("styles")
        by_name = {style.named(): style for style in styles}
        self._now = Standing(bench, by_name, Plan(bench), Nightbook(hall), Stock())
        # How it stood ahead of each deed that could be taken back, and behind each that was.
        self._ahead = []
        self._behind = []

    def _turn_to(self, standing):
        """From now on it stands so; the MOVES."""
        ahead = self._now
        self._now = standing
        return moves(ahead, standing)

    def _take_back(self):
        if len(self._ahead) == 0:
            raise CantBe("back")
        self._behind.append(self._now)
        return self._turn_to(self._ahead.pop())

    def _do_again(self):
        if len(self._behind) == 0:
            raise CantBe("again")
        self._ahead.append(self._now)
        return self._turn_to(self._behind.pop())

    def do(self, deed):
        """Does a DEED; its MOVES."""
        if not is_deed(deed):
            raise BadValue("deed")
        if deed[0] == "back":
            return self._take_back()
        if deed[0] == "again":
            return self._do_again()
        standing = done(self._now, deed)
        if standing is None:
            return ()
        self._ahead.append(self._now)
        self._behind.clear()
        return self._turn_to(standing)

    def tell(self, story):
        """Does all DEEDS of a STORY, or none; a list of their MOVES."""
        if type(story) is not tuple or len(story) > MOST_DEEDS:
            raise Untold(None)
        other = self.copy()
        told = []
        for place, deed in enumerate(story):
            try:
                told.append(other.do(deed))
            except (BadValue, NoSuch, Already, TooMany, CantBe):
                raise Untold(place) from None
        self._stand_as(other)
        return told

    def _stand_as(self, other):
        """Stands as another one does, also in what could be taken back or done again."""
        self._now = other._now
        self._ahead = list(other._ahead)
        self._behind = list(other._behind)

    def many(self):
        """How many deeds could be taken back."""
        return len(self._ahead)

    def plan(self):
        """The PLAN as it stands."""
        return self._now.plan()

    def nightbook(self):
        """The NIGHTBOOK as it stands, the asker's own."""
        return self._now.nightbook()

    def stock(self):
        """The STOCK as it stands, the asker's own."""
        return self._now.stock()

    def job(self, number):
        """The JOB of a NUMBER."""
        return self._now.job_numbered(number)

    def order(self, number):
        """The ORDER of a JOB, or None."""
        return self._now.order_or_none(self._now.job_numbered(number).numbered())

    def verdict(self, number):
        """The VERDICT on a JOB."""
        job = self._now.job_numbered(number)
        return Judge(self._now).verdict(job)

    def verdicts(self, word=None):
        """A list of (NUMBER, VERDICT) by RANK of JOBS, or of those that begin with that word alone."""
        if word is not None and not is_verdict_word(word):
            raise BadValue("word")
        told = Judge(self._now).verdicts()
        return [(number, verdict) for number, verdict in told if word is None or verdict[0] == word]

    def copy(self):
        """Another one that stands likewise and goes on by itself."""
        other = House(self._now.bench(), self._now.nightbook().hall(), self._now.styles())
        other._stand_as(self)
        return other

    def __eq__(self, other):
        return type(other) is House and self._now == other._now

    def __len__(self):
        return len(self._now.plan())
