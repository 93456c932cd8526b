"""What several tests ask: that something is refused, and by which fields; that two are alike, or aren't."""

from anything import Agreeing, Hostile, Posing, anything
from bindbench.errors import Already, BadValue, CantBe, NoPaper, NoSuch, TooMany, Untold


def _caught(test, kind, ask, told, named):
    with test.assertRaises(kind) as held:
        ask(*told, **named)
    test.assertIs(type(held.exception), kind)
    return held.exception


def bad(test, what, ask, *told, **named):
    test.assertEqual(_caught(test, BadValue, ask, told, named).what, what)


def none_such(test, what, name, ask, *told, **named):
    error = _caught(test, NoSuch, ask, told, named)
    test.assertEqual(error.what, what)
    test.assertIs(error.name, name)


def too_many(test, most, ask, *told, **named):
    test.assertEqual(_caught(test, TooMany, ask, told, named).most, most)


def alike(test, one, other, so):
    test.assertIs(one == other, so)
    test.assertIs(other == one, so)
    test.assertIs(one != other, not so)
    test.assertIs(other != one, not so)


def already(test, what, name, ask, *told, **named):
    error = _caught(test, Already, ask, told, named)
    test.assertEqual((error.what, error.name), (what, name))


def no_paper(test, ask, *told, **named):
    test.assertEqual(_caught(test, NoPaper, ask, told, named).what, "paper")


def unlike_anything(test, thing, *others):
    """That a thing is unlike what is no such object, whatever that says."""
    for called, other in anything():
        with test.subTest(called):
            test.assertIs(thing == other, False)
            test.assertIs(thing != other, True)
    for other in [Agreeing(), Hostile(), Posing(type(thing)), type(thing), str(thing), *others]:
        test.assertIs(thing == other, False)
        test.assertIs(thing != other, True)


def cant_be(test, about, ask, *told, **named):
    test.assertEqual(_caught(test, CantBe, ask, told, named).about, about)


def untold(test, place, ask, *told, **named):
    test.assertEqual(_caught(test, Untold, ask, told, named).place, place)
