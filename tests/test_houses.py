"""Houses: of what they are made, and how each deed changes them, against one that is kept by hand."""

import unittest

from anything import anything
from asking import alike, bad, none_such, unlike_anything
from bindbench.benches import Bench, Plan
from bindbench.dealings import Nightbook
from bindbench.halls import Hall, Order
from bindbench.houses import House
from bindbench.stuffs import Stock
from bindbench.styles import Job, Style
from housework import (
    CALF, CLOTH, Reckoned, house_of, house_told, job_deed, lots_of, refused_by, small_house, some_deeds,
)
from paperwork import is_fewest_paper
from stockwork import lot, spoil, wanted


def of_the_nightbook(deed, ordered):
    """Whether a deed is one of the nightbook's, too, where jobs of these numbers have orders."""
    return deed[0] in ("order", "lost", "found") or deed[0] in ("haste", "gone") and deed[1] in ordered


def styles(many):
    return [Style("abcdefghijklmn"[number], [("sew", 1, 0)]) for number in range(many)]


class Made(unittest.TestCase):
    def test_all_empty_at_first(self):
        hall = Hall([10], [(3, 1)])
        house = House(Bench(2, 1), hall, [CALF])
        self.assertEqual((house.plan(), house.nightbook(), house.stock()),
                         (Plan(Bench(2, 1)), Nightbook(hall), Stock()))
        self.assertEqual((len(house), bool(house), house.many(), house.verdicts()), (0, False, 0, []))
        self.assertEqual([type(house.plan()), type(house.nightbook()), type(house.stock())], [Plan, Nightbook, Stock])

    def test_styles_at_each_bound_and_beyond(self):
        for told in [styles(1), styles(12), tuple(styles(12))]:
            house = House(Bench(), Hall([1]), told)
            for style in told:
                house.do(("job", len(house) + 1, style.named(), 0, 9, False))
                self.assertEqual(house.job(len(house)).of_style(), style)
        for told in [[], (), styles(13), styles(2) + styles(1), [CALF, Style("calf", [("sew", 1, 0)])], [CALF, None],
                     {"calf": CALF}, CALF, "calf", ["calf"], iter([CALF])]:
            bad(self, "styles", House, Bench(), Hall([1]), told)
        house = House(styles=(CALF,), hall=Hall([1]), bench=Bench())
        self.assertEqual(house, House(Bench(), Hall([1]), [CALF]))

    def test_of_anything(self):
        for called, thing in anything():
            with self.subTest(called):
                bad(self, "bench", House, thing, thing, thing)
                bad(self, "hall", House, Bench(), thing, thing)
                bad(self, "styles", House, Bench(), Hall([1]), thing)
                bad(self, "styles", House, Bench(), Hall([1]), [CALF, thing])
        bad(self, "bench", House, styles=[], hall=None, bench=None)
        bad(self, "hall", House, styles=[], hall=[1], bench=Bench())

    def test_what_was_handed_in_stays_and_a_change_of_it_changes_nothing(self):
        told = [CALF, CLOTH]
        house = House(Bench(), Hall([1]), told)
        told.clear()
        house.do(job_deed(7))
        self.assertEqual((house.job(7).of_style(), told), (CLOTH, []))


class Deeds(unittest.TestCase):
    def test_a_job_comes(self):
        house = small_house()
        self.assertEqual(house.do(("job", 7, "calf", 10, 200, False)), ())
        self.assertEqual((house.job(7), len(house), house.many()), (Job(7, CALF, 10, 200), 1, 1))
        self.assertEqual(house.do(deed=("job", 9, "cloth", 10, 20, True)), (("bench", 7),))
        self.assertEqual(house.plan(), Plan(Bench(), [Job(7, CALF, 10, 200), Job(9, CLOTH, 10, 20, True)]))

    def test_an_order_comes(self):
        house = house_of(job_deed(7), job_deed(8, 100), job_deed(9, 50))
        self.assertIsNone(house.order(7))
        self.assertEqual(house.do(("order", 7, 5, 0, 0)), (("in", 7),))
        self.assertEqual(house.order(7), Order(Job(7, CLOTH, 0, 200), 5, 0, 0))
        self.assertEqual(house.do(("order", 8, 11, 0, 1)), (("in", 8),))
        self.assertEqual(house.nightbook().dealing(), [(7, (0, 1)), (8, (0, 2))])
        self.assertEqual(house.do(("order", 9, 20, 0, 0)), (("in", 9), ("slot", 8)))
        self.assertEqual((house.nightbook().kept(), house.many()), ([9, 8, 7], 6))

    def test_haste(self):
        house = house_of(job_deed(7), job_deed(8, 100), ("order", 7, 5, 3, 3), ("order", 8, 5, 3, 3))
        self.assertEqual(house.nightbook().kept(), [8])
        self.assertEqual(house.do(("haste", 7, True)), (("bench", 7), ("bench", 8), ("in", 7), ("out", 8)))
        self.assertEqual((house.job(7).in_haste(), house.order(7).of_job(), house.nightbook().kept()),
                         (True, house.job(7), [7]))
        self.assertEqual(house.do(("haste", 7, False)), (("bench", 7), ("bench", 8), ("in", 8), ("out", 7)))
        self.assertEqual(house, house_of(job_deed(7), job_deed(8, 100), ("order", 7, 5, 3, 3), ("order", 8, 5, 3, 3)))

    def test_haste_of_a_job_without_an_order(self):
        house = house_of(job_deed(7), job_deed(8, 100))
        self.assertEqual(house.do(("haste", 7, True)), (("bench", 7), ("bench", 8)))
        self.assertEqual((house.order(7), house.nightbook().orders()), (None, []))
        house.do(("order", 7, 5, 0, 0))
        self.assertIs(house.order(7).of_job().in_haste(), True)

    def test_a_job_goes_and_its_order(self):
        house = house_of(job_deed(7), job_deed(8, 100), ("order", 7, 5, 3, 3), ("order", 8, 5, 3, 3))
        self.assertEqual(house.do(("gone", 8)), (("bench", 7), ("in", 7), ("out", 8)))
        self.assertEqual((len(house), house.nightbook().orders(), house.plan()),
                         (1, [house.order(7)], Plan(Bench(), [house.job(7)])))
        house.do(job_deed(8, 100))
        self.assertIsNone(house.order(8))
        self.assertEqual(house.do(("gone", 8)), (("bench", 7),))

    def test_slots(self):
        house = house_of(job_deed(7), job_deed(8, 100), ("order", 7, 5, 0, 0), ("order", 8, 5, 0, 1))
        dealt = dict(house.nightbook().dealing())
        self.assertEqual(house.do(("lost", dealt[8])), (("slot", 8),))
        self.assertEqual(house.nightbook().hall(), Hall([10, 20], [dealt[8], (3, 1)]))
        self.assertEqual(house.do(("found", (3, 1))), ())
        # Night 0 has none left for 7.
        self.assertEqual(house.do(("lost", dealt[7])), (("out", 7),))
        self.assertEqual(house.do(("found", dealt[8])), (("in", 7),))
        self.assertEqual(house.nightbook().slot_of(7), dealt[8])

    def test_pages(self):
        house = house_of(job_deed(7))
        self.assertEqual(house.do(("page", wanted(4, "dukes", (7, 12)))), ())
        self.assertEqual(house.do(("page", lot(5, "oaka", 20))), (("set", "dukes"),))
        self.assertEqual(house.do(("page", lot(3, "oakb", 15))), (("set", "dukes"),))
        self.assertEqual(house.stock().lot_of("dukes"), "oakb")
        self.assertEqual(house.do(("page", wanted(3, "earls", (9, 14)))), (("set", "dukes"), ("set", "earls")))
        self.assertEqual(house.do(("page", spoil(6, "dukes", 7))), (("set", "dukes"),))
        self.assertEqual((house.stock().lots(), house.stock().sets(True)),
                         ([("oaka", 8, 0, 12), ("oakb", 1, 14, 0)], ["dukes"]))

    def test_deeds_that_change_nothing(self):
        house = house_of(job_deed(7), job_deed(8, haste=True), ("order", 7, 5, 0, 0), ("lost", (0, 1)),
                         ("page", lot(5, "oaka", 20)), ("lost", (1, 1)))
        house.do(("back",))
        told, many = house_told(house), house.many()
        for deed in [("haste", 7, False), ("haste", 8, True), ("lost", (0, 1)), ("lost", (3, 1)),
                     ("page", lot(5, "oaka", 20))]:
            self.assertEqual(house.do(deed), ())
            self.assertEqual((house_told(house), house.many()), (told, many))
        # Nor do they let go what was taken back.
        house.do(("again",))
        self.assertEqual(house.nightbook().hall().lost(), [(0, 1), (1, 1), (3, 1)])


class Against(unittest.TestCase):
    def stands_as(self, house, reckoned):
        book = house.nightbook()
        self.assertEqual((house.plan(), len(house)), (reckoned.plan(), len(reckoned.stand[0])))
        self.assertEqual(str(house.plan()), str(reckoned.plan()))
        self.assertEqual((book.hall(), book.kept(), house.stock()),
                         (reckoned.hall(), reckoned.kept(), reckoned.stock()))
        orders = {one.numbered(): one for one in reckoned.orders()}
        self.assertEqual({one.numbered(): one for one in book.orders()}, orders)
        for one in reckoned.jobs():
            self.assertEqual((house.job(one.numbered()), house.order(one.numbered())),
                             (one, orders.get(one.numbered())))
        self.assertEqual(house.many(), len(reckoned.ahead))

    def test_each_deed(self):
        refusals, done = {}, {}
        for seed in range(100, 112):
            house = small_house()
            reckoned = Reckoned(Bench(1, 1), Hall([10, 20], [(3, 1)]), [CALF, CLOTH])
            for deed in some_deeds(seed, 120):
                plan, slots, lots = house.plan(), dict(house.nightbook().dealing()), lots_of(house)
                told, stood, ordered = house_told(house), reckoned.stand, list(reckoned.stand[1])
                wanted_refusal = reckoned.refusal(deed)
                answer, refusal = refused_by(house.do, deed)
                self.assertEqual(refusal, wanted_refusal)
                if refusal is not None:
                    self.assertEqual(house_told(house), told)
                    refusals[(deed[0], refusal[0])] = True
                else:
                    reckoned.do(deed)
                    done[deed[0]] = done.get(deed[0], 0) + (stood != reckoned.stand)
                    self.assertEqual(answer, reckoned.moves(plan, slots, lots, house))
                    if stood != reckoned.stand and of_the_nightbook(deed, ordered):
                        book = house.nightbook()
                        self.assertTrue(is_fewest_paper(book.hall(), book.orders(), list(slots.items()),
                                                        book.dealing(), book.levels()))
                self.stands_as(house, reckoned)
        self.assertEqual(len(refusals), 12)
        self.assertGreater(min(done.values()), 20)


class Told(unittest.TestCase):
    def full(self):
        return house_of(job_deed(7), job_deed(8, 100), ("order", 7, 5, 0, 0), ("lost", (0, 1)),
                        ("page", lot(5, "oaka", 20)), ("page", wanted(5, "dukes", (7, 12))), ("page", spoil(9, "a", 1)),
                        ("back",))

    def test_job_and_order(self):
        house = self.full()
        self.assertEqual((house.job(number=7), house.order(number=7)), (house.job(7), house.order(7)))
        self.assertEqual((house.job(8), house.order(8)), (Job(8, CLOTH, 0, 100), None))
        for ask in (house.job, house.order, house.verdict):
            for called, thing in anything():
                with self.subTest(called):
                    none_such(self, "job", thing, ask, thing)
            for number in (0, 1, 9, 99999, 100000, -7, "7", (7,), [7]):
                none_such(self, "job", number, ask, number)
        house = house_of(job_deed(1))
        for ask in (house.job, house.order, house.verdict):
            none_such(self, "job", True, ask, True)

    def test_plan_nightbook_and_stock_are_the_askers_own(self):
        house = self.full()
        told = house_told(house)
        book, stock = house.nightbook(), house.stock()
        self.assertEqual((book, stock), (house.nightbook(), house.stock()))
        book.drop(7)
        book.lose((2, 2))
        stock.put(lot(9, "oakb", 1))
        self.assertEqual(house_told(house), told)
        again = (book.orders(), book.hall(), stock.pages())
        house.do(("found", (0, 1)))
        house.do(("page", lot(9, "oakc", 1)))
        self.assertEqual((book.orders(), book.hall(), stock.pages()), again)
        plan = house.plan()
        text = str(plan)
        house.do(("gone", 7))
        self.assertEqual((str(plan), len(plan)), (text, 2))

    def test_a_copy_goes_on_by_itself(self):
        house = self.full()
        other, told = house.copy(), house_told(house)
        self.assertEqual((house_told(other), other.many(), type(other), other), (told, house.many(), House, house))
        self.assertEqual(other.do(("again",)), ())
        self.assertEqual((len(other.stock()), len(house.stock()), house.many(), other.many()), (3, 2, 6, 7))
        other.do(("gone", 7))
        while other.many():
            other.do(("back",))
        self.assertEqual((len(other), house_told(house), other == house), (0, told, False))
        once_more = house_told(other)
        house.do(("again",))
        house.do(("lost", (9, 1)))
        self.assertEqual((house_told(other), house.many()), (once_more, 8))
        other = house.copy()
        house.do(("back",))
        self.assertEqual((house.many(), other.many()), (7, 8))

    def test_alike_in_whatever_order_all_was_told(self):
        one = House(Bench(), Hall([10, 20]), [CALF, CLOTH])
        for deed in [job_deed(7), job_deed(8, 100), ("order", 7, 5, 0, 1), ("order", 8, 5, 0, 0), ("lost", (0, 1)),
                     ("lost", (4, 1)), ("page", lot(5, "oaka", 20)), ("page", lot(4, "oakb", 20))]:
            one.do(deed)
        other = House(Bench(), Hall([10, 20], [(4, 1)]), (CLOTH, CALF))
        for deed in [("page", lot(4, "oakb", 20)), ("lost", (0, 1)), job_deed(8, 100, haste=True), job_deed(9),
                     ("order", 8, 5, 0, 0), job_deed(7), ("page", lot(5, "oaka", 20)), ("order", 7, 5, 0, 1),
                     ("gone", 9), ("haste", 8, False)]:
            alike(self, one, other, False)
            other.do(deed)
        alike(self, one, other, True)
        self.assertNotEqual(one.many(), other.many())

    def test_unlike(self):
        plain = House(Bench(), Hall([10]), [CALF])
        alike(self, plain, House(Bench(), Hall([10]), [CALF]), True)
        for other in [House(Bench(2, 1), Hall([10]), [CALF]), House(Bench(), Hall([11]), [CALF]),
                      House(Bench(), Hall([10], [(0, 1)]), [CALF]), House(Bench(), Hall([10]), [CLOTH]),
                      House(Bench(), Hall([10]), [CALF, CLOTH]),
                      House(Bench(), Hall([10]), [Style("calf", [("sew", 1, 0)])])]:
            alike(self, plain, other, False)
        other = plain.copy()
        for deed in [("job", 7, "calf", 0, 9, False), ("lost", (0, 1)), ("page", lot(5, "oaka", 20))]:
            other.do(deed)
            alike(self, plain, other, False)
            other.do(("back",))
            alike(self, plain, other, True)

    def test_with_what_is_no_house(self):
        unlike_anything(self, self.full(), self.full().plan(), self.full().nightbook(), [CALF])
        unlike_anything(self, small_house())

    def test_len(self):
        house = small_house()
        for number in range(1, 41):
            house.do(job_deed(number))
            self.assertEqual((len(house), bool(house)), (number, True))


if __name__ == "__main__":
    unittest.main()
