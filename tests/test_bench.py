import unittest

from anything import Agreeing, Hostile, Posing, anything
from asking import alike, bad, none_such
from bindbench.benches import Bench, Plan

HANDS = [("hand", 1), ("hand", 2)]


class Made(unittest.TestCase):
    def test_at_each_bound(self):
        for hands in (1, 2, 8, 9):
            for presses in (1, 2, 8, 9):
                bench = Bench(hands, presses)
                self.assertEqual((bench.how_many("hand"), bench.how_many("press")), (hands, presses))

    def test_beyond(self):
        for many in (-1, 0, 10, 11, 10 ** 6):
            bad(self, "hands", Bench, many, 1)
            bad(self, "presses", Bench, 1, many)
            bad(self, "hands", Bench, hands=many)
            bad(self, "presses", Bench, presses=many)

    def test_left_out(self):
        for bench, hands, presses in [(Bench(), 1, 1), (Bench(3), 3, 1), (Bench(hands=3), 3, 1),
                                      (Bench(presses=4), 1, 4)]:
            self.assertEqual((bench.how_many("hand"), bench.how_many("press")), (hands, presses))

    def test_by_names_in_another_order(self):
        bench = Bench(presses=4, hands=2)
        self.assertEqual((bench.how_many(kind="hand"), bench.how_many(kind="press")), (2, 4))

    def test_of_anything(self):
        for called, thing in anything(but=["one", "two"]):
            with self.subTest(called):
                bad(self, "hands", Bench, thing, 1)
                bad(self, "presses", Bench, 1, thing)

    def test_what_is_refused_first(self):
        for called, thing in anything(but=["one", "two"]):
            with self.subTest(called):
                bad(self, "hands", Bench, thing, thing)
        bad(self, "hands", Bench, presses=0, hands=0)


class Told(unittest.TestCase):
    def test_places(self):
        self.assertEqual(Bench().places(), [("hand", 1), ("press", 1)])
        self.assertEqual(Bench(2, 3).places(), HANDS + [("press", 1), ("press", 2), ("press", 3)])
        self.assertEqual(Bench(9, 9).places(), [(kind, k) for kind in ("hand", "press") for k in range(1, 10)])
        told = Bench(2, 1).places()
        self.assertEqual([type(told)] + [type(place) for place in told], [list, tuple, tuple, tuple])

    def test_the_list_of_places_is_the_askers_own(self):
        bench = Bench(2, 1)
        told, again = bench.places(), bench.places()
        told.clear()
        self.assertEqual(again, HANDS + [("press", 1)])
        self.assertEqual(bench.places(), again)
        self.assertEqual((len(bench), str(bench), bench), (3, "hands 2 presses 1", Bench(2, 1)))

    def test_how_many_of_anything(self):
        for called, thing in anything(but=["a kind"]):
            with self.subTest(called):
                none_such(self, "kind", thing, Bench().how_many, thing)
        for word in ("hands", "presses", "Hand", "hand ", "sew", "glue", "", "place"):
            none_such(self, "kind", word, Bench().how_many, word)

    def test_len(self):
        for hands, presses in [(1, 1), (2, 3), (9, 1), (9, 9)]:
            self.assertEqual(len(Bench(hands, presses)), hands + presses)
            self.assertIs(bool(Bench(hands, presses)), True)

    def test_text(self):
        self.assertEqual(str(Bench()), "hands 1 presses 1")
        self.assertEqual(str(Bench(2, 1)), "hands 2 presses 1")
        self.assertEqual(str(Bench(3, 9)), "hands 3 presses 9")


class Compared(unittest.TestCase):
    def test_alike(self):
        alike(self, Bench(), Bench(1, 1), True)
        alike(self, Bench(2, 3), Bench(presses=3, hands=2), True)

    def test_unlike(self):
        for other in [Bench(2, 2), Bench(3, 3), Bench(3, 2), Bench(1, 4), Bench()]:
            alike(self, Bench(2, 3), other, False)

    def test_with_what_is_no_bench(self):
        bench = Bench(2, 1)
        for called, thing in anything():
            with self.subTest(called):
                self.assertIs(bench == thing, False)
                self.assertIs(bench != thing, True)
        for thing in [Posing(Bench), Agreeing(), Hostile(), str(bench), bench.places(), (2, 1), Plan(bench), Bench]:
            self.assertIs(bench == thing, False)
            self.assertIs(bench != thing, True)


if __name__ == "__main__":
    unittest.main()
