"""Verdicts on jobs: which of the four words, and what goes with it."""

import unittest

from anything import anything
from asking import bad
from bindbench.benches import Bench
from bindbench.dealings import bars, put_off
from bindbench.halls import Hall
from bindbench.houses import House
from housework import CALF, CLOTH, house_of, job_deed, refused_by, small_house, some_deeds
from stockwork import lot, spoil, wanted


def reckoned(house, number):
    """The verdict on a job, by what the plan, the nightbook and the stock tell."""
    plan, book, stock = house.plan(), house.nightbook(), house.stock()
    for name in stock.sets():
        if stock.lot_of(name) is None and number in dict(stock.covers(name)):
            return ("lacks", name, stock.lacks(name))
    if number in put_off(book.hall(), book.orders()):
        return ("off", tuple(bars(book.hall(), book.orders(), number)[0]))
    due = house.job(number).due_at()
    if plan.done(number) > due:
        return ("late", plan.done(number) - due, tuple(sorted({other for other, _ in plan.chain(number)})))
    return ("met", due - plan.done(number))


class Words(unittest.TestCase):
    def test_met(self):
        house = house_of(job_deed(7, 10), job_deed(8, 9), job_deed(9, 100))
        self.assertEqual(house.plan().done(8), 4)
        self.assertEqual(house.verdict(8), ("met", 5))
        self.assertEqual(house.verdict(number=9), ("met", 100 - house.plan().done(9)))
        self.assertEqual(house_of(job_deed(7, 4)).verdict(7), ("met", 0))

    def test_late(self):
        house = house_of(job_deed(7, 3), job_deed(8, 3), job_deed(9, 3))
        self.assertEqual([house.verdict(number) for number in (7, 8, 9)],
                         [("late", 1, (7,)), ("late", 5, (7, 8)), ("late", 9, (7, 8, 9))])
        # Each once, however many of its steps are in the chain.
        calf = house_of(("job", 7, "calf", 0, 5, False))
        self.assertEqual((calf.verdict(7), len(calf.plan().chain(7))), (("late", 47, (7,)), 3))

    def test_off(self):
        house = house_of(job_deed(7, 100), job_deed(8, 90), job_deed(9, 0), ("order", 7, 5, 3, 3),
                         ("order", 8, 5, 3, 3))
        self.assertEqual(house.verdict(7), ("off", (8,)))
        self.assertEqual(house.verdict(8)[0], "met")
        house.do(("order", 9, 25, 0, 5))
        self.assertEqual(house.verdict(9), ("off", ()))
        house.do(("found", (3, 1)))
        self.assertEqual((house.verdict(7)[0], house.verdict(9)), ("met", ("off", ())))

    def test_lacks(self):
        house = house_of(job_deed(7), ("page", wanted(4, "dukes", (7, 12), (9, 30))))
        self.assertEqual(house.verdict(7), ("lacks", "dukes", 42))
        house.do(("page", wanted(9, "barons", (7, 50))))
        self.assertEqual(house.verdict(7), ("lacks", "barons", 50))
        house.do(("page", lot(9, "oaka", 49)))
        self.assertEqual((house.verdict(7), house.stock().sets(False)), (("lacks", "barons", 43), ["dukes"]))
        house.do(("page", lot(9, "oakb", 50)))
        self.assertEqual(house.verdict(7)[0], "met")
        house.do(("page", spoil(9, "barons", 7)))
        self.assertEqual(house.verdict(7), ("lacks", "barons", 43))
        house.do(job_deed(9))
        self.assertEqual(house.verdict(9)[0], "met")

    def test_the_first_that_is_so(self):
        house = house_of(job_deed(7, 3), job_deed(8, 0), ("order", 7, 25, 0, 0), ("page", wanted(4, "dukes", (7, 12))))
        self.assertEqual(house.verdict(7), ("lacks", "dukes", 12))
        house.do(("page", lot(4, "oaka", 12)))
        self.assertEqual(house.verdict(7), ("off", ()))
        house.do(("gone", 7))
        house.do(job_deed(7, 3))
        self.assertEqual(house.verdict(7), ("late", 5, (7, 8)))
        house.do(("haste", 7, True))
        house.do(("gone", 7))
        house.do(job_deed(7, 30))
        self.assertEqual(house.verdict(7)[0], "met")

    def test_sets_that_are_cut_or_are_of_others(self):
        house = house_of(job_deed(7), ("page", wanted(4, "a", (8, 12))),
                         ("page", wanted(4, "b", (7, 12), colour="blue")), ("page", lot(1, "oaka", 12, "blue")))
        self.assertEqual((house.stock().sets(True), house.verdict(7)[0]), (["a"], "met"))

    def test_kinds(self):
        house = house_of(job_deed(7, 3), job_deed(8, 3), job_deed(9), ("order", 9, 25, 0, 0))
        self.assertEqual([type(part) for part in house.verdict(8)], [str, int, tuple])
        self.assertEqual([type(part) for part in (house.verdict(9), house.verdict(9)[1])], [tuple, tuple])


class Verdicts(unittest.TestCase):
    def four(self):
        return house_of(job_deed(7, 50), job_deed(2, 3, haste=True), job_deed(8, 40), job_deed(4, 45), job_deed(3, 60),
                        ("order", 8, 25, 0, 0), ("page", wanted(4, "dukes", (4, 12))))

    def test_by_rank(self):
        house = self.four()
        self.assertEqual(house.verdicts(), [(number, house.verdict(number)) for number in (2, 8, 4, 7, 3)])
        self.assertEqual([verdict[0] for _, verdict in house.verdicts()], ["late", "off", "lacks", "met", "met"])
        self.assertEqual(small_house().verdicts(), [])

    def test_of_one_word(self):
        house = self.four()
        for word in ("lacks", "off", "late", "met"):
            wanted_so = [(number, verdict) for number, verdict in house.verdicts() if verdict[0] == word]
            self.assertEqual((house.verdicts(word), house.verdicts(word=word)), (wanted_so, wanted_so))
            self.assertEqual(small_house().verdicts(word), [])
        self.assertEqual([number for number, _ in house.verdicts("met")], [7, 3])
        self.assertEqual(house.verdicts(None), house.verdicts())

    def test_of_no_word(self):
        house = self.four()
        for called, thing in anything(but=["None"]):
            with self.subTest(called):
                bad(self, "word", house.verdicts, thing)
        for word in ("Met", "lack", "met ", "done", "", ("met",), ["met"]):
            bad(self, "word", house.verdicts, word)

    def test_the_list_told_is_the_askers_own(self):
        house = self.four()
        told, again = house.verdicts(), house.verdicts()
        told.clear()
        self.assertEqual((house.verdicts(), len(again)), (again, 5))

    def test_against_what_else_is_told(self):
        words = {}
        for seed in range(130, 140):
            house = small_house()
            for deed in some_deeds(seed, 80):
                refused_by(house.do, deed)
                jobs = house.plan().jobs()
                told = [(one.numbered(), reckoned(house, one.numbered())) for one in jobs]
                self.assertEqual(house.verdicts(), told)
                for number, verdict in told:
                    words[verdict[0]] = words.get(verdict[0], 0) + 1
        self.assertEqual(sorted(words), ["lacks", "late", "met", "off"])
        self.assertGreater(min(words.values()), 50)

    def test_forty_that_are_put_off(self):
        house = House(Bench(), Hall([1]), [CALF, CLOTH])
        for number in range(1, 41):
            house.do(job_deed(number, 10 ** 6))
            house.do(("order", number, 1, 0, 0))
        self.assertEqual(house.verdicts("off"), [(number, ("off", (1,))) for number in range(2, 41)])


if __name__ == "__main__":
    unittest.main()
