import unittest

from anything import anything
from bindbench.errors import Already, BadText, BadValue, CantBe, NoPaper, NoSuch, TooMany, Untold

MADE = {
    BadValue: (BadValue, ("name",), {"what": "name"}),
    BadText: (BadText, (2, 3), {"row": 2, "word": 3, "what": "text"}),
    NoPaper: (NoPaper, (), {"what": "paper"}),
    NoSuch: (NoSuch, ("step", 13), {"what": "step", "name": 13}),
    Already: (Already, ("job", 7), {"what": "job", "name": 7}),
    TooMany: (TooMany, (12,), {"most": 12}),
    CantBe: (CantBe, ("back",), {"about": "back"}),
    Untold: (Untold, (4,), {"place": 4}),
}

PYTHONS = (ValueError, KeyError, IndexError, OverflowError, ZeroDivisionError, RuntimeError, TypeError,
           NotImplementedError, AttributeError)

# Under what each stands, of Python's own errors above (Exception is over all, LookupError is asked apart).
UNDER = {
    BadValue: [ValueError],
    BadText: [ValueError],
    NoPaper: [ValueError],
    NoSuch: [KeyError],
    Already: [],
    TooMany: [OverflowError],
    CantBe: [RuntimeError],
    Untold: [],
}

BASES = {
    BadValue: ValueError,
    BadText: BadValue,
    NoPaper: BadValue,
    NoSuch: KeyError,
    Already: LookupError,
    TooMany: OverflowError,
    CantBe: RuntimeError,
    Untold: Exception,
}


def caught_by(error, wanted):
    try:
        raise error
    except wanted:
        return True
    except Exception:
        return False


class Fields(unittest.TestCase):
    def test_each_has_its_fields(self):
        for named, (kind, told, fields) in MADE.items():
            with self.subTest(named.__name__):
                self.assertEqual(vars(kind(*told)), fields)

    def test_fields_are_told_by_their_names_too(self):
        self.assertEqual(BadValue(what="steps").what, "steps")
        error = BadText(word=5, row=4)
        self.assertEqual((error.row, error.word, error.what), (4, 5, "text"))
        error = NoSuch(name=(), what="order")
        self.assertEqual((error.what, error.name), ("order", ()))
        error = Already(name="oaka", what="lot")
        self.assertEqual((error.what, error.name), ("lot", "oaka"))
        self.assertEqual(TooMany(most=40).most, 40)
        self.assertEqual(CantBe(about="again").about, "again")
        self.assertEqual(Untold(place=0).place, 0)

    def test_two_of_a_class_have_each_its_own_fields(self):
        one, other = BadText(1, 2), BadText(3, 4)
        self.assertEqual((one.row, one.word, other.row, other.word), (1, 2, 3, 4))

    def test_made_of_just_so_many(self):
        for named, (kind, told, fields) in MADE.items():
            with self.subTest(named.__name__):
                self.assertRaises(TypeError, kind, *told, 1)
                if told:
                    self.assertRaises(TypeError, kind, *told[1:])

    def test_name_is_the_very_thing(self):
        for called, thing in anything():
            with self.subTest(called):
                self.assertIs(NoSuch("step", thing).name, thing)
                self.assertIs(Already("job", thing).name, thing)

    def test_message_can_be_told_whatever_the_name_is(self):
        for called, thing in anything():
            with self.subTest(called):
                self.assertIsInstance(str(NoSuch("step", thing)), str)
                self.assertIsInstance(repr(NoSuch("step", thing)), str)
                self.assertIsInstance(str(Already("job", thing)), str)
                self.assertIsInstance(repr(Already("job", thing)), str)


class Standing(unittest.TestCase):
    def test_base_of_each(self):
        for kind, base in BASES.items():
            with self.subTest(kind.__name__):
                self.assertEqual(kind.__bases__, (base,))

    def test_each_is_caught_by_itself_and_by_its_base(self):
        for kind, base in BASES.items():
            with self.subTest(kind.__name__):
                self.assertTrue(caught_by(kind(*MADE[kind][1]), kind))
                self.assertTrue(caught_by(kind(*MADE[kind][1]), base))
                self.assertTrue(caught_by(kind(*MADE[kind][1]), Exception))

    def test_none_is_caught_by_another(self):
        for kind in BASES:
            for other in BASES:
                stands = kind is other or (other is BadValue and kind in (BadText, NoPaper))
                with self.subTest(kind.__name__ + " by " + other.__name__):
                    self.assertEqual(caught_by(kind(*MADE[kind][1]), other), stands)

    def test_none_is_caught_by_another_one_of_pythons(self):
        for kind, under in UNDER.items():
            for other in PYTHONS:
                with self.subTest(kind.__name__ + " by " + other.__name__):
                    self.assertEqual(caught_by(kind(*MADE[kind][1]), other), other in under)

    def test_lookups(self):
        for kind in BASES:
            with self.subTest(kind.__name__):
                self.assertEqual(caught_by(kind(*MADE[kind][1]), LookupError), kind in (NoSuch, Already))


if __name__ == "__main__":
    unittest.main()
