"""Papers that are checked: those told are let by, those spoiled in one place only where they still are papers."""

import copy
import random
import unittest

from anything import anything
from asking import bad, no_paper
from bindbench.checking import check_fewest, check_kept, check_most
from bindbench.dealings import Nightbook
from bindbench.errors import NoPaper
from bindbench.halls import Hall
from bindbench.papers import kept_paper, most_paper
from hallwork import dealings, fits, full_house, order, orders_of, some_halls, tight_house
from nightwork import some_deeds
from paperwork import is_fewest_paper, is_kept_paper, is_most_paper

LAST_NIGHT = 99999


def let_by(ask, *told):
    try:
        answer = ask(*told)
    except NoPaper:
        return False
    if answer is not None:
        raise ValueError(answer)
    return True


def spoiled_leaf(dice, thing):
    """What may stand in the place of a number."""
    return dice.choice([thing + 1, thing - 1, thing + 1, -thing, 0, str(thing), None, bool(thing), (thing,)])


def spoiled(dice, thing):
    """A paper, or a part of one, that is spoiled in one place."""
    if type(thing) not in (list, tuple):
        return spoiled_leaf(dice, thing)
    parts = list(thing)
    deed = dice.choice(["part"] * 8 + ["out", "twice", "turn", "list", "swap", "again"])
    if deed == "part" and parts:
        place = dice.randrange(len(parts))
        parts[place] = spoiled(dice, parts[place])
    elif deed == "out" and parts:
        parts.pop(dice.randrange(len(parts)))
    elif deed == "twice" and parts:
        place = dice.randrange(len(parts))
        parts.insert(place, parts[place])
    elif deed == "turn":
        parts.reverse()
    elif deed == "swap" and len(parts) > 1:
        one, other = dice.sample(range(len(parts)), 2)
        parts[one], parts[other] = parts[other], parts[one]
    elif deed == "again" and parts:
        parts.append(dice.choice(parts))
    elif deed == "list":
        return parts if type(thing) is tuple else tuple(parts)
    return tuple(parts) if type(thing) is tuple else parts


class CheckKept(unittest.TestCase):
    def test_each_told_is_let_by(self):
        for hall, orders in list(some_halls(70, 100)) + [tight_house(5), full_house(5), (Hall([10]), [])]:
            self.assertIsNone(check_kept(hall, orders, kept_paper(hall, orders)))
        self.assertIsNone(check_kept(paper=kept_paper(hall, tuple(orders)), orders=tuple(orders), hall=hall))

    def test_another_dealing_and_other_bars_are_let_by(self):
        others = 0
        for hall, orders in some_halls(71, 60, 5):
            dealing, off = kept_paper(hall, orders)
            dealt = [one for one in orders if one.numbered() in dict(dealing)]
            for found in dealings(hall, dealt):
                paper = (tuple(sorted(found.items())), off)
                self.assertTrue(let_by(check_kept, hall, orders, paper))
                others += paper[0] != dealing
        self.assertGreater(others, 100)
        # More bars than are the order's own: 2 has its slot for itself, but with that they are as many again.
        hall = Hall([10, 10], [(0, 2)])
        orders = [order(1, due=1), order(2, 1, 1, 1, due=2), order(5, 1, 1, 1, due=2), order(3, due=3)]
        self.assertEqual(kept_paper(hall, orders)[1], ((3, (1,), ((0, 1),)),))
        dealing = kept_paper(hall, orders)[0]
        for barring in [(1,), (1, 2, 5)]:
            slots = ((0, 1), (1, 1), (1, 2))[:len(barring)]
            self.assertIsNone(check_kept(hall, orders, (dealing, ((3, barring, slots),))))
        no_paper(self, check_kept, hall, orders, (dealing, ((3, (1, 2), ((0, 1), (1, 1))),)))

    def test_spoiled_in_one_place(self):
        dice = random.Random(72)
        verdicts = {True: 0, False: 0}
        for hall, orders in some_halls(73, 150):
            paper = kept_paper(hall, orders)
            for _ in range(25):
                other = spoiled(dice, paper)
                wanted = is_kept_paper(hall, orders, other)
                self.assertIs(let_by(check_kept, hall, orders, other), wanted, (paper, other))
                verdicts[wanted] += other != paper
        self.assertGreater(verdicts[False], 1000)

    def test_of_other_halls_and_orders(self):
        houses = list(some_halls(74, 30))
        for (hall, orders), (other_hall, other_orders) in zip(houses, houses[1:]):
            paper = kept_paper(hall, orders)
            for so in [(other_hall, orders), (hall, other_orders), (hall, orders[1:]), (hall, orders + [order(77)])]:
                self.assertIs(let_by(check_kept, *so, paper), is_kept_paper(*so, paper))

    def test_one_part_wrong(self):
        hall = Hall([10, 20])
        orders = [order(9, 5, due=20), order(4, 5, due=30), order(2, 15, due=10), order(1, 25)]
        dealt, off = ((2, (0, 2)), (9, (0, 1))), (4, (2, 9), ((0, 1), (0, 2)))
        self.assertIsNone(check_kept(hall, orders, (dealt, ((1, (), ()), off))))
        for paper in [
            (dealt, ((1, (), ()),)), (dealt, (off,)), (dealt, (off, (1, (), ()))), (dealt, ((1, (), ()), off, off)),
            (dealt[:1], ((1, (), ()), off, (9, (2,), ((0, 1),)))), (dealt[::-1], ((1, (), ()), off)),
            (dealt, ((1, (), ()), (4, (9, 2), ((0, 1), (0, 2))))), (dealt, ((1, (), ()), (4, (2, 9), ((0, 1),)))),
            (dealt, ((1, (), ()), (4, (9,), ((0, 1),)))), (dealt, ((1, (), ()), (4, (2, 9), ((0, 2), (0, 1))))),
            (((2, (0, 1)), (9, (0, 2))), ((1, (), ()), off)), (((2, (0, 2)), (9, (0, 2))), ((1, (), ()), off)),
            (((2, (0, 2)), (9, (1, 1))), ((1, (), ()), off)), (((2, (0, 2)), (9, (0, 3))), ((1, (), ()), off)),
            (dealt, ((1, (), ()), off), ()), (dealt,), [dealt, ((1, (), ()), off)], (list(dealt), ((1, (), ()), off)),
            (dealt, [(1, (), ()), off]), (dealt, ([1, (), ()], off)), (dealt, ((1, [], ()), off)),
            (dealt, ((1, (), []), off)), (([2, (0, 2)], dealt[1]), ((1, (), ()), off)),
            (((2, [0, 2]), dealt[1]), ((1, (), ()), off)), (dealt, ((True, (), ()), off)),
            (dealt, ((1, (), ()), (4, (2, 9, 9), ((0, 1), (0, 2), (0, 2))))),
            (dealt + ((77, (5, 1)),), ((1, (), ()), off)),
        ]:
            self.assertFalse(is_kept_paper(hall, orders, paper))
            no_paper(self, check_kept, hall, orders, paper)

    def test_bars_are_of_less_rank(self):
        hall, orders = Hall([10]), [order(1, due=1), order(2, due=2)]
        self.assertIsNone(check_kept(hall, orders, (((1, (0, 1)),), ((2, (1,), ((0, 1),)),))))
        no_paper(self, check_kept, hall, orders, (((2, (0, 1)),), ((1, (2,), ((0, 1),)),)))

    def test_refused(self):
        refuses(self, check_kept)
        papers_of_anything(self, kept_paper(*tight_house(6)), check_kept, *tight_house(6))


class CheckMost(unittest.TestCase):
    def test_each_told_is_let_by(self):
        dice = random.Random(75)
        for hall, orders in list(some_halls(76, 100)) + [tight_house(7), full_house(7), (Hall([10]), [])]:
            first = dice.randint(0, 4)
            last = first + dice.choice([0, 1, 2, 9])
            self.assertIsNone(check_most(hall, orders, first, last, most_paper(hall, orders, first, last)))
        self.assertIsNone(check_most(paper=((), (), ()), last=LAST_NIGHT, first=0, orders=(), hall=hall))

    def test_other_covers_are_let_by(self):
        hall, one = Hall([10]), order(7)
        for numbers, slots in [((7,), ()), ((), ((0, 1),))]:
            self.assertIsNone(check_most(hall, [one], 0, 0, (((7, (0, 1)),), numbers, slots)))
        for numbers, slots in [((7,), ((0, 1),)), ((), ()), ((), ((1, 1),)), ((8,), ())]:
            no_paper(self, check_most, hall, [one], 0, 0, (((7, (0, 1)),), numbers, slots))

    def test_spoiled_in_one_place(self):
        dice = random.Random(77)
        verdicts = {True: 0, False: 0}
        for hall, orders in some_halls(78, 150):
            first = dice.randint(0, 3)
            last = first + dice.choice([0, 1, 9])
            paper = most_paper(hall, orders, first, last)
            for _ in range(25):
                other = spoiled(dice, paper)
                wanted = is_most_paper(hall, orders, first, last, other)
                self.assertIs(let_by(check_most, hall, orders, first, last, other), wanted, (paper, other))
                verdicts[wanted] += other != paper
            for so in [(first + 1, last + 1), (first, last + 1), (max(0, first - 1), last)]:
                self.assertIs(let_by(check_most, hall, orders, *so, paper), is_most_paper(hall, orders, *so, paper))
        self.assertGreater(verdicts[False], 1000)
        self.assertGreater(verdicts[True], 3)

    def test_one_part_wrong(self):
        hall = Hall([10])
        orders = [order(2, 5, 1, due=10), order(4, 5, 1, 2, due=30), order(9, 5, 0, 1, due=20), order(1, 25, 1)]
        dealt = ((2, (1, 1)), (4, (2, 1)), (9, (0, 1)))
        self.assertIsNone(check_most(hall, orders, 0, 2, (dealt, (2, 4, 9), ())))
        self.assertIsNone(check_most(hall, orders, 0, 2, (dealt, (), ((0, 1), (1, 1), (2, 1)))))
        self.assertIsNone(check_most(hall, orders, 0, 2, (dealt, (4, 9), ((1, 1),))))
        for paper in [(dealt, (4, 2, 9), ()), (dealt, (2, 4), ()), (dealt, (2, 4, 9), ((0, 1),)), (dealt, (2, 4, 9)),
                      (dealt, (1, 2, 4), ()), (dealt, (2, 4, 77), ()), (dealt[:2], (2, 4), ()), (dealt, [2, 4, 9], ()),
                      (dealt, (2, 4, 9), []), (list(dealt), (2, 4, 9), ()), [dealt, (2, 4, 9), ()],
                      (dealt, (4, 9), ((2, 1),)), (dealt, (4, 9), ([1, 1],)), (dealt, (4, 9), ((1, True),)),
                      (dealt, (), ((1, 1), (0, 1), (2, 1))), (dealt, (2, 4, 9), (), ()), (dealt, (2, 2, 4), ())]:
            self.assertFalse(is_most_paper(hall, orders, 0, 2, paper))
            no_paper(self, check_most, hall, orders, 0, 2, paper)
        no_paper(self, check_most, hall, orders, 0, 1, (dealt, (2, 4, 9), ()))
        no_paper(self, check_most, hall, orders, 1, 2, (dealt, (2, 4, 9), ()))

    def test_refused(self):
        refuses(self, check_most, 0, 9)
        hall, paper = Hall([10]), ((), (), ())
        for called, thing in anything(but=["zero", "one", "two"]):
            with self.subTest(called):
                bad(self, "first", check_most, hall, [], thing, thing, thing)
                bad(self, "last", check_most, hall, [], 0, thing, thing)
        for first, last in [(-1, 5), (LAST_NIGHT + 1, LAST_NIGHT + 1)]:
            bad(self, "first", check_most, hall, [], first, last, paper)
        for first, last in [(5, 4), (0, LAST_NIGHT + 1), (0, -1)]:
            bad(self, "last", check_most, hall, [], first, last, None)
        bad(self, "orders", check_most, paper=None, last=-1, first=-1, orders=None, hall=hall)
        papers_of_anything(self, most_paper(*tight_house(6), 0, 9), check_most, *tight_house(6), 0, 9)


class CheckFewest(unittest.TestCase):
    def test_each_told_is_let_by(self):
        told = {}
        for book, deed, how in some_deeds(79, 10, 40, 9):
            ahead = book.dealing()
            getattr(book, deed)(*how)
            hall, orders, now = book.hall(), book.orders(), book.dealing()
            self.assertIsNone(check_fewest(hall, orders, ahead, now, book.levels()))
            self.assertIsNone(check_fewest(hall, tuple(orders), tuple(ahead), tuple(now), book.levels()))
            told[len(book.levels())] = True
        self.assertTrue({0, 1, 2} <= set(told))
        self.assertIsNone(check_fewest(paper=book.levels(), now=now, ahead=ahead, orders=orders, hall=hall))

    def test_spoiled_in_one_place(self):
        dice = random.Random(80)
        verdicts = {True: 0, False: 0}
        for book, deed, how in some_deeds(81, 12, 40, 9):
            ahead = book.dealing()
            getattr(book, deed)(*how)
            hall, orders, now, levels = book.hall(), book.orders(), book.dealing(), book.levels()
            for _ in range(8):
                other = [ahead, now, levels]
                place = dice.choice([0, 1, 2, 2])
                other[place] = spoiled(dice, other[place])
                wanted = is_fewest_paper(hall, orders, *other)
                self.assertIs(let_by(check_fewest, hall, orders, *other), wanted, (ahead, now, levels, other))
                verdicts[wanted] += other != [ahead, now, levels]
        self.assertGreater(verdicts[False], 500)
        self.assertGreater(verdicts[True], 50)

    def chain(self):
        """One frame, and three orders of two nights each, of which a fourth one moves all."""
        hall = Hall([10])
        orders = [order(1, 1, 0, 1), order(2, 1, 1, 2), order(3, 1, 2, 3), order(4)]
        ahead = [(1, (0, 1)), (2, (1, 1)), (3, (2, 1))]
        now = [(1, (1, 1)), (2, (2, 1)), (3, (3, 1)), (4, (0, 1))]
        return hall, orders, ahead, now

    def test_levels(self):
        hall, orders, ahead, now = self.chain()
        first, second, third = (0, 1), (1, 1), (2, 1)
        self.assertIsNone(check_fewest(hall, orders, ahead, now, ((first,), (second,), (third,))))
        # A SLOT may stand in more than one LEVEL, if only none is missing.
        self.assertIsNone(check_fewest(hall, orders, ahead, now, ((first,), (first, second), (third,))))
        for paper in [(), ((first,), (second,)), ((first,), (second,), (third,), ()), ((second,), (first,), (third,)),
                      ((first,), (third,), (second,)), ((first, second), (third,), ()), ((first,), (), (third,)),
                      ((first,), (second,), ((3, 1),)), ((first,), (second,), ()), ((), (first,), (second,)),
                      ((first,), (second,), (third, third)), ((first,), (second, first), (third,)),
                      [(first,), (second,), (third,)], ([first], (second,), (third,)), (first, second, third),
                      (([0, 1],), (second,), (third,)), (((False, 1),), (second,), (third,)), None]:
            no_paper(self, check_fewest, hall, orders, ahead, now, paper)

    def test_more_in_the_last_level_than_must(self):
        hall, orders, ahead, now = self.chain()
        orders, ahead, now = orders + [order(9, 1, 8)], ahead + [(9, (8, 1))], now + [(9, (8, 1))]
        self.assertIsNone(check_fewest(hall, orders, ahead, now, (((0, 1),), ((1, 1),), ((2, 1), (8, 1)))))
        self.assertIsNone(check_fewest(hall, orders, ahead, now, (((0, 1),), ((1, 1), (8, 1)), ((2, 1), (8, 1)))))
        no_paper(self, check_fewest, hall, orders, ahead, now, (((0, 1),), ((1, 1), (7, 1)), ((2, 1),)))
        now = now[:-1]
        no_paper(self, check_fewest, hall, orders, ahead, now, (((0, 1),), ((1, 1),), ((2, 1), (8, 1))))
        self.assertIsNone(check_fewest(hall, orders, ahead, now, (((0, 1),), ((1, 1),), ((2, 1),))))

    def test_nobody_wanders(self):
        hall, orders, ahead, now = self.chain()
        for some in ([], ahead, ahead[1:], ahead[:1]):
            self.assertIsNone(check_fewest(hall, orders, ahead, some, ()))
            no_paper(self, check_fewest, hall, orders, ahead, some, ((),))
        no_paper(self, check_fewest, hall, orders, ahead, ahead[:2] + [(3, (3, 1))], ())
        no_paper(self, check_fewest, hall, orders, ahead, ahead[:2] + [(3, (3, 1))], (((2, 1),),))

    def test_two_wander(self):
        hall, orders, ahead, now = self.chain()
        no_paper(self, check_fewest, hall, orders, ahead[1:], ahead + [], ((),))
        self.assertIsNone(check_fewest(hall, orders, ahead[1:], ahead, ()))
        no_paper(self, check_fewest, hall, orders, ahead[2:], ahead, ())
        no_paper(self, check_fewest, Hall([10], [(0, 1)]), orders[:3] + [order(4, 1, 5)], ahead,
                 [(1, (1, 1)), (2, (2, 1)), (3, (3, 1)), (4, (5, 1))], (((1, 1),), ((2, 1),)))

    def test_a_slot_that_is_lost_now(self):
        hall, orders, ahead, now = self.chain()
        hall, now = Hall([10], [(0, 1)]), now[:3]
        self.assertIsNone(check_fewest(hall, orders, ahead, now, (((1, 1),), ((2, 1),))))
        # It was dealt ahead to one that is dealt now, and so may stand in a LEVEL.
        self.assertIsNone(check_fewest(hall, orders, ahead, now, (((0, 1), (1, 1)), ((2, 1),))))
        no_paper(self, check_fewest, hall, orders, ahead, now, (((1, 1),),))
        no_paper(self, check_fewest, hall, orders, ahead, ahead, ())

    def test_dealings_that_are_none(self):
        hall, orders, ahead, now = self.chain()
        paper = (((0, 1),), ((1, 1),), ((2, 1),))
        for other in [ahead[::-1], ahead + ahead[-1:], [(1, (0, 1)), (2, (1, 1)), (3, (1, 1))],
                      [(1, (0, 1)), (2, (1, 1)), (3, (2, 2))], [(1, (0, 1)), (2, (1, 1)), (3, (4, 1))],
                      [(1, (2, 1))] + ahead[1:2], [(1, [0, 1])] + ahead[1:], [[1, (0, 1)]] + ahead[1:],
                      [(True, (0, 1))] + ahead[1:], ahead + [(100000, (9, 1))], dict(ahead), iter(ahead), "", None]:
            no_paper(self, check_fewest, hall, orders, other, now, paper)
        for other in [now[::-1], now[:3], now + [(5, (8, 1))], now[:2] + [(3, (4, 1)), (4, (0, 1))],
                      now[:3] + [(4, (3, 1))], now[:3] + [(4, (0, 2))], now[:3] + [(4, [0, 1])], dict(now), None]:
            no_paper(self, check_fewest, hall, orders, ahead, other, paper)

    def test_ahead_of_orders_that_are_there_no_more(self):
        hall, orders, ahead, now = self.chain()
        paper = (((0, 1),), ((1, 1),), ((2, 1),))
        # Whatever it was, 77 might have been in the slot of the greatest night.
        for other in [(77, (3, 1)), (77, (LAST_NIGHT, 1)), (99999, (0, 1))]:
            wanted = other[1] != (0, 1)
            self.assertIs(let_by(check_fewest, hall, orders, ahead + [other], now, paper), wanted)
        no_paper(self, check_fewest, hall, orders, ahead + [(77, (LAST_NIGHT + 1, 1))], now, paper)

    def test_refused(self):
        refuses(self, check_fewest, [], [])
        hall, orders = tight_house(6)
        book = Nightbook(hall)
        for one in orders:
            ahead = book.dealing()
            book.bring(one)
        papers_of_anything(self, book.levels(), check_fewest, hall, orders, ahead, book.dealing())
        for called, thing in anything(but=["an empty list", "an empty tuple"]):
            with self.subTest(called):
                no_paper(self, check_fewest, hall, orders, thing, book.dealing(), book.levels())
                no_paper(self, check_fewest, hall, orders, ahead, thing, book.levels())
                no_paper(self, check_fewest, hall, orders, ahead, [thing], book.levels())
                no_paper(self, check_fewest, hall, orders, ahead, [(thing, (0, 1))], book.levels())
                no_paper(self, check_fewest, hall, orders, [(7, thing)], [], ())
                no_paper(self, check_fewest, hall, orders, [(7, (thing, 77))], [], ())

    def test_what_was_handed_in_stays(self):
        hall, orders, ahead, now = self.chain()
        paper = (((0, 1),), ((1, 1),), ((2, 1),))
        check_fewest(hall, orders, ahead, now, paper)
        self.assertEqual((hall, orders, ahead, now), self.chain())


def refuses(test, ask, *between):
    """That a check refuses halls and orders that are none, ahead of the paper."""
    hall, one = Hall([10]), order(7)
    for called, thing in anything():
        with test.subTest(called):
            bad(test, "hall", ask, thing, thing, *between, thing)
            bad(test, "orders", ask, hall, [one, thing], *between, thing)
    for called, thing in anything(but=["an empty list", "an empty tuple"]):
        with test.subTest(called):
            bad(test, "orders", ask, hall, thing, *between, ())
    for orders in [orders_of(41), [one, order(7, 5)], one]:
        bad(test, "orders", ask, hall, orders, *between, None)


def papers_of_anything(test, paper, ask, *told):
    """That a check refuses anything in the place of each part of a paper, however deep or often."""
    test.assertIsNone(ask(*told, paper))
    for called, thing in anything():
        with test.subTest(called):
            if called != "an empty tuple" or paper != ():
                no_paper(test, ask, *told, thing)
            for many in (1, 2, 3, 40):
                no_paper(test, ask, *told, (thing,) * many)
                no_paper(test, ask, *told, ((thing,) * many,) * max(1, len(paper)))
            for place in range(len(paper)):
                if called != "an empty tuple" or paper[place] != ():
                    no_paper(test, ask, *told, paper[:place] + (thing,) + paper[place + 1:])
    much = ((1,) * 1000000, ((1, 1),) * 1000000)
    no_paper(test, ask, *told, (paper[0] if paper else (), ((7,) + much,) * 40))
    no_paper(test, ask, *told, (much[1],) * 3)
    test.assertIsNone(ask(*told, copy.deepcopy(paper)))


if __name__ == "__main__":
    unittest.main()
