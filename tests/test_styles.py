import unittest

from anything import Agreeing, Hostile, Posing, anything
from asking import alike, bad, none_such, too_many
from bindbench.styles import Job, Style

SEW, PRESS, GLUE = ("sew", 6, 0), ("press", 12, 8), ("glue", 2, 24)
COVER, LETTER = ("cover", 5, 1), ("letter", 240, 240)


def calf():
    return Style("calf", [SEW, PRESS, GLUE])


def of_steps(many):
    return [("sew", hours, 0) for hours in range(1, many + 1)]


class Made(unittest.TestCase):
    def test_of_a_list_and_of_a_tuple(self):
        self.assertEqual(Style("calf", [SEW, PRESS, GLUE]).steps(), [SEW, PRESS, GLUE])
        self.assertEqual(Style("calf", (SEW, PRESS, GLUE)).steps(), [SEW, PRESS, GLUE])

    def test_by_names_in_another_order(self):
        style = Style(steps=(SEW,), name="cloth")
        self.assertEqual((style.named(), style.steps()), ("cloth", [SEW]))

    def test_how_many_steps(self):
        for many in range(1, 13):
            self.assertEqual(len(Style("calf", of_steps(many))), many)
        bad(self, "steps", Style, "calf", [])
        bad(self, "steps", Style, "calf", ())
        bad(self, "steps", Style, "calf", of_steps(13))
        bad(self, "steps", Style, "calf", tuple(of_steps(13)))

    def test_one_step_that_is_none(self):
        for wrong in [("bind", 1, 0), ("sew", 0, 0), ("sew", 241, 0), ("sew", 1, -1), ("sew", 1, 241), ("sew", 1),
                      ["sew", 1, 0], ("sew", True, 0), ("sew", 1, False), None, "sew 1 0"]:
            with self.subTest(repr(wrong)):
                bad(self, "steps", Style, "calf", [wrong])
                bad(self, "steps", Style, "calf", [wrong, SEW])
                bad(self, "steps", Style, "calf", [SEW, PRESS, wrong])

    def test_names(self):
        for name in ["c", "quarters"]:
            self.assertEqual(Style(name, [SEW]).named(), name)
        for name in ["", "quartersx", "Calf", "calf ", "ca lf", "calf1", "haste", "job", "style"]:
            with self.subTest(name):
                bad(self, "name", Style, name, [SEW])

    def test_of_anything(self):
        for called, thing in anything(but=["a name"]):
            with self.subTest(called):
                bad(self, "name", Style, thing, [SEW])
        for called, thing in anything(but=["steps", "steps as a tuple"]):
            with self.subTest(called):
                bad(self, "steps", Style, "calf", thing)

    def test_of_anything_among_the_steps(self):
        for called, thing in anything(but=["a step"]):
            with self.subTest(called):
                bad(self, "steps", Style, "calf", [SEW, thing])
                bad(self, "steps", Style, "calf", (thing, SEW))

    def test_the_name_is_refused_first(self):
        for called, thing in anything(but=["a name"]):
            with self.subTest(called):
                bad(self, "name", Style, thing, thing)
        bad(self, "name", Style, steps=None, name=None)

    def test_the_list_stays_as_it_was(self):
        steps = [SEW, PRESS, GLUE]
        style = Style("calf", steps)
        style.put_in(COVER, 1).left_out(2)
        style.steps().clear()
        self.assertEqual(steps, [SEW, PRESS, GLUE])

    def test_changing_the_list_later_changes_nothing(self):
        steps = [SEW, PRESS, GLUE]
        style = Style("calf", steps)
        steps[0] = COVER
        steps.append(COVER)
        self.assertEqual(style.steps(), [SEW, PRESS, GLUE])
        self.assertEqual((len(style), style.span(), style), (3, 52, calf()))
        steps.clear()
        self.assertEqual(str(style), "style calf\nsew 6 0\npress 12 8\nglue 2 24")

    def test_a_refused_list_stays_as_it_was(self):
        steps = [SEW, None]
        bad(self, "steps", Style, "calf", steps)
        self.assertEqual(steps, [SEW, None])


class Told(unittest.TestCase):
    def test_steps(self):
        style = calf()
        self.assertIs(type(style.steps()), list)
        self.assertEqual([type(step) for step in style.steps()], [tuple] * 3)

    def test_the_list_of_steps_is_the_askers_own(self):
        style = calf()
        told, again = style.steps(), style.steps()
        told.append(COVER)
        told[0] = COVER
        self.assertEqual(again, [SEW, PRESS, GLUE])
        self.assertEqual(style.steps(), [SEW, PRESS, GLUE])
        self.assertEqual((len(style), style), (3, calf()))

    def test_step_by_number(self):
        style = calf()
        self.assertEqual([style.step(number) for number in (1, 2, 3)], [SEW, PRESS, GLUE])
        self.assertEqual(style.step(number=2), PRESS)
        for number in [-3, -1, 0, 4, 13]:
            with self.subTest(number):
                none_such(self, "step", number, style.step, number)

    def test_step_of_anything(self):
        for called, thing in anything(but=["one"]):
            with self.subTest(called):
                none_such(self, "step", thing, Style("calf", [SEW]).step, thing)

    def test_span(self):
        self.assertEqual(calf().span(), 52)
        self.assertEqual(Style("calf", [SEW]).span(), 6)
        self.assertEqual(Style("calf", [LETTER] * 12).span(), 5760)
        self.assertEqual(Style("calf", [("sew", 1, 0)]).span(), 1)

    def test_hours(self):
        self.assertEqual(calf().hours(), 20)
        self.assertEqual(calf().hours(None), 20)
        self.assertEqual(calf().hours("hand"), 8)
        self.assertEqual(calf().hours("press"), 12)
        self.assertEqual(calf().hours(kind="press"), 12)
        every = Style("calf", [SEW, PRESS, GLUE, COVER, LETTER])
        self.assertEqual((every.hours(), every.hours("hand"), every.hours("press")), (265, 253, 12))

    def test_hours_of_a_kind_that_no_step_has(self):
        self.assertEqual(Style("calf", [SEW]).hours("press"), 0)
        self.assertEqual(Style("calf", [PRESS]).hours("hand"), 0)

    def test_hours_of_anything_else(self):
        for word in ["sew", "glue", "hands", "Hand", "hand ", " press", ""]:
            bad(self, "kind", calf().hours, word)
        for called, thing in anything(but=["None", "a kind"]):
            with self.subTest(called):
                bad(self, "kind", calf().hours, thing)


class PutIn(unittest.TestCase):
    def test_at_each_number(self):
        style = calf()
        for at, steps in [(1, [COVER, SEW, PRESS, GLUE]), (2, [SEW, COVER, PRESS, GLUE]),
                          (3, [SEW, PRESS, COVER, GLUE]), (4, [SEW, PRESS, GLUE, COVER])]:
            with self.subTest(at):
                other = style.put_in(COVER, at)
                self.assertEqual(other.steps(), steps)
                self.assertEqual((other.named(), len(other), other.step(at)), ("calf", 4, COVER))

    def test_behind_the_last(self):
        self.assertEqual(calf().put_in(COVER).steps(), [SEW, PRESS, GLUE, COVER])
        self.assertEqual(calf().put_in(COVER, None).steps(), [SEW, PRESS, GLUE, COVER])

    def test_by_names_in_another_order(self):
        self.assertEqual(calf().put_in(at=1, step=COVER).steps(), [COVER, SEW, PRESS, GLUE])

    def test_beyond(self):
        for at in [-1, 0, 5, 6, 13]:
            with self.subTest(at):
                none_such(self, "step", at, calf().put_in, COVER, at)

    def test_of_anything(self):
        for called, thing in anything(but=["a step"]):
            with self.subTest(called):
                bad(self, "step", calf().put_in, thing)
                bad(self, "step", calf().put_in, thing, 1)
        for called, thing in anything(but=["None", "one", "two"]):
            with self.subTest(called):
                none_such(self, "step", thing, calf().put_in, COVER, thing)

    def test_a_twelfth_and_a_thirteenth(self):
        style = Style("calf", of_steps(11)).put_in(COVER, 12)
        self.assertEqual((len(style), style.step(12)), (12, COVER))
        too_many(self, 12, style.put_in, SEW)
        for at in range(1, 14):
            too_many(self, 12, style.put_in, SEW, at)

    def test_what_is_refused_first(self):
        full = Style("calf", of_steps(12))
        bad(self, "step", full.put_in, None, None)
        bad(self, "step", full.put_in, None, 14)
        bad(self, "step", calf().put_in, None, 14)
        none_such(self, "step", 14, full.put_in, SEW, 14)
        none_such(self, "step", 0, full.put_in, SEW, 0)

    def test_it_is_another_one(self):
        style = calf()
        style.put_in(COVER, 2)
        style.put_in(COVER)
        self.assertEqual(style.steps(), [SEW, PRESS, GLUE])
        none_such(self, "step", 9, style.put_in, COVER, 9)
        self.assertEqual(str(style), str(calf()))

    def test_refused_it_changes_nothing(self):
        full = Style("calf", of_steps(12))
        too_many(self, 12, full.put_in, SEW)
        bad(self, "step", full.put_in, None)
        self.assertEqual(full.steps(), of_steps(12))


class LeftOut(unittest.TestCase):
    def test_at_each_number(self):
        style = calf()
        for number, steps in [(1, [PRESS, GLUE]), (2, [SEW, GLUE]), (3, [SEW, PRESS])]:
            with self.subTest(number):
                other = style.left_out(number)
                self.assertEqual((other.named(), other.steps()), ("calf", steps))
        self.assertEqual(style.left_out(number=1).steps(), [PRESS, GLUE])

    def test_down_to_one(self):
        self.assertEqual(Style("calf", [SEW, PRESS]).left_out(1).steps(), [PRESS])
        self.assertEqual(Style("calf", [SEW, PRESS]).left_out(2).steps(), [SEW])
        self.assertEqual(Style("calf", of_steps(12)).left_out(12).steps(), of_steps(11))

    def test_beyond(self):
        for number in [-1, 0, 4, 12]:
            none_such(self, "step", number, calf().left_out, number)

    def test_of_anything(self):
        for called, thing in anything(but=["one", "two"]):
            with self.subTest(called):
                none_such(self, "step", thing, calf().left_out, thing)
                none_such(self, "step", thing, Style("calf", [SEW]).left_out, thing)

    def test_the_only_one(self):
        style = Style("calf", [SEW])
        bad(self, "steps", style.left_out, 1)
        none_such(self, "step", 2, style.left_out, 2)
        none_such(self, "step", 0, style.left_out, 0)
        self.assertEqual(style.steps(), [SEW])

    def test_it_is_another_one(self):
        style = calf()
        self.assertEqual(style.left_out(2).put_in(PRESS, 2), style)
        self.assertEqual(style.steps(), [SEW, PRESS, GLUE])


class Compared(unittest.TestCase):
    def test_alike(self):
        style = calf()
        alike(self, style, style, True)
        alike(self, style, Style("calf", (SEW, PRESS, GLUE)), True)
        alike(self, style, Style("calf", [SEW, PRESS]).put_in(GLUE), True)

    def test_unlike(self):
        for other in [Style("cloth", [SEW, PRESS, GLUE]), Style("calf", [SEW, PRESS]),
                      Style("calf", [SEW, GLUE, PRESS]), Style("calf", [SEW, PRESS, GLUE, GLUE]),
                      Style("calf", [SEW, PRESS, ("glue", 3, 24)]), Style("calf", [SEW, PRESS, ("glue", 2, 23)]),
                      Style("calf", [SEW, PRESS, ("sew", 2, 24)])]:
            with self.subTest(repr(other)):
                alike(self, calf(), other, False)

    def test_with_what_is_no_style(self):
        for called, thing in anything():
            with self.subTest(called):
                self.assertIs(calf() == thing, False)
                self.assertIs(calf() != thing, True)
        for thing in [Job(1, calf()), Posing(Style), Agreeing(), Hostile(), str(calf()), ("calf", [SEW, PRESS, GLUE])]:
            self.assertIs(calf() == thing, False)
            self.assertIs(calf() != thing, True)
        self.assertIs(None == calf(), False)
        self.assertIs("calf" != calf(), True)

    def test_among_others(self):
        self.assertIn(calf(), [1, None, calf()])
        self.assertEqual([calf(), 1].index(calf()), 0)


class Written(unittest.TestCase):
    def test_text(self):
        self.assertEqual(str(calf()), "style calf\nsew 6 0\npress 12 8\nglue 2 24")
        self.assertEqual(str(Style("c", [LETTER])), "style c\nletter 240 240")
        self.assertEqual(str(Style("calf", of_steps(12))).count("\n"), 12)

    def test_repr(self):
        self.assertEqual(repr(calf()), "Style(calf, 3)")
        self.assertEqual(repr(Style("quarters", of_steps(12))), "Style(quarters, 12)")
        self.assertEqual(repr([Style("c", [SEW])]), "[Style(c, 1)]")

    def test_len_and_truth(self):
        self.assertEqual((len(calf()), len(Style("calf", [SEW]))), (3, 1))
        self.assertIs(bool(Style("calf", [SEW])), True)


if __name__ == "__main__":
    unittest.main()
