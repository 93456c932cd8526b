"""What several tests ask: that something is refused, and by which fields; that two are alike, or aren't."""

from bindbench.errors import BadValue, NoSuch, TooMany


def _caught(test, kind, ask, told, named):
    with test.assertRaises(kind) as held:
        ask(*told, **named)
    test.assertIs(type(held.exception), kind)
    return held.exception


def bad(test, what, ask, *told, **named):
    test.assertEqual(_caught(test, BadValue, ask, told, named).what, what)


def none_such(test, what, name, ask, *told, **named):
    error = _caught(test, NoSuch, ask, told, named)
    test.assertEqual(error.what, what)
    test.assertIs(error.name, name)


def too_many(test, most, ask, *told, **named):
    test.assertEqual(_caught(test, TooMany, ask, told, named).most, most)


def alike(test, one, other, so):
    test.assertIs(one == other, so)
    test.assertIs(other == one, so)
    test.assertIs(one != other, not so)
    test.assertIs(other != one, not so)
