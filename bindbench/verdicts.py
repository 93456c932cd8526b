"""The verdict on a job: what its house can promise of it."""

from bindbench.papers import kept_paper

VERDICT_WORDS = ("lacks", "off", "late", "met")


def is_verdict_word(thing):
    """Whether anything is a word with which a VERDICT begins."""
    return type(thing) is str and thing in VERDICT_WORDS


def _lacking(stock, number):
    """The VERDICT where a SET that WAITS has a JOB's NUMBER among its WANTS, else None."""
    for name in stock.sets(True):
        if number in [wanting for wanting, _ in stock.covers(name)]:
            return ("lacks", name, stock.lacks(name))
    return None


class Judge:
    """Tells VERDICTS on the JOBS of a HOUSE as it stands."""

    def __init__(self, standing):
        self._plan = standing.plan()
        self._stock = standing.stock()
        book = standing.nightbook()
        _, off = kept_paper(book.hall(), book.orders())
        self._barring = {number: numbers for number, numbers, _ in off}

    def verdict(self, job):
        """The VERDICT on a JOB."""
        number = job.numbered()
        lacking = _lacking(self._stock, number)
        if lacking is not None:
            return lacking
        if number in self._barring:
            return ("off", self._barring[number])
        hours = self._plan.late(number)
        if hours > 0:
            return ("late", hours, tuple(sorted(set([link for link, _ in self._plan.chain(number)]))))
        return ("met", job.due_at() - self._plan.done(number))

    def verdicts(self):
        """A list of (NUMBER, VERDICT), by RANK of JOBS."""
        return [(job.numbered(), self.verdict(job)) for job in self._plan.jobs()]
