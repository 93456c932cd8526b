"""Things of any kind, to be handed in where the document says "of anything"."""


class Hostile:
    """Can't be compared, hashed, measured, written out or asked for anything."""

    def _refuse(self, *rest, **more):
        raise RuntimeError("a thing of another class was asked something")

    __eq__ = __ne__ = __lt__ = __le__ = __gt__ = __ge__ = _refuse
    __hash__ = __len__ = __bool__ = __str__ = __repr__ = __iter__ = _refuse
    __getitem__ = __contains__ = __index__ = __int__ = __call__ = _refuse
    __add__ = __radd__ = __sub__ = __rsub__ = __getattr__ = _refuse


class Agreeing:
    """Says that it is equal to all."""

    def __eq__(self, other):
        return True

    def __ne__(self, other):
        return False

    __hash__ = None


class Posing:
    """Tells another class than its own."""

    def __init__(self, shown):
        self.shown = shown

    @property
    def __class__(self):
        return self.shown


class Empty:
    def __len__(self):
        return 0


def deep(made, innermost, levels=100000):
    thing = innermost
    for _ in range(levels):
        thing = made(thing)
    return thing


def doubled(made, innermost):
    """A thing in which the same one stands 2 ** 200 times over."""
    thing = innermost
    for _ in range(200):
        thing = made(thing, thing)
    return thing


def endless_list():
    thing = []
    thing.append(thing)
    return thing


def endless_dict():
    thing = {}
    thing["self"] = thing
    return thing


# Built once: the deep and the wide ones take their time.
_THINGS = [
    ("None", None),
    ("True", True),
    ("False", False),
    ("zero", 0),
    ("one", 1),
    ("two", 2),
    ("minus one", -1),
    ("a great number", 10 ** 400),
    ("a great number below 0", -10 ** 400),
    ("an empty text", ""),
    ("a blank", " "),
    ("a name", "calf"),
    ("a work", "sew"),
    ("a kind", "hand"),
    ("a figure", "1"),
    ("a long text", "a" * 20000),
    ("many figures", "1" * 20000),
    ("many blanks", " " * 20000),
    ("rows", "style calf\nsew 1 0"),
    ("bytes", b"calf"),
    ("no bytes", b""),
    ("an empty list", []),
    ("an empty tuple", ()),
    ("an empty dict", {}),
    ("an empty set", set()),
    ("a list of None", [None]),
    ("a tuple of None", (None,)),
    ("a step", ("sew", 1, 0)),
    ("a step as a list", ["sew", 1, 0]),
    ("steps", [("sew", 1, 0)]),
    ("steps as a tuple", (("sew", 1, 0), ("press", 2, 3))),
    ("steps as a dict", {("sew", 1, 0): 1}),
    ("steps as a set", {("sew", 1, 0)}),
    ("a dict", {"calf": 1}),
    ("a set", {1}),
    ("a range", range(3)),
    ("a class", int),
    ("a function", deep),
    ("an iterator", iter([("sew", 1, 0)])),
    ("an object", object()),
    ("an empty object", Empty()),
    ("a hostile object", Hostile()),
    ("an agreeing object", Agreeing()),
    ("an object that poses as an int", Posing(int)),
    ("an object that poses as a bool", Posing(bool)),
    ("an object that poses as a text", Posing(str)),
    ("an object that poses as a tuple", Posing(tuple)),
    ("an object that poses as a list", Posing(list)),
    ("a long list", [0] * 1000000),
    ("a long tuple", (("sew", 1, 0),) * 1000000),
    ("a deep list", deep(lambda x: [x], 0)),
    ("a deep tuple", deep(lambda x: (x,), "sew")),
    ("a deep step", deep(lambda x: (x, 1, 0), "sew")),
    ("a deep dict", deep(lambda x: {"a": x}, 0)),
    ("a doubled list", doubled(lambda x, y: [x, y], 0)),
    ("a doubled tuple", doubled(lambda x, y: (x, y), 0)),
    ("a doubled step", doubled(lambda x, y: (x, y, 0), "sew")),
    ("a doubled dict", doubled(lambda x, y: {1: x, 2: y}, 0)),
    ("a list in itself", endless_list()),
    ("a dict in itself", endless_dict()),
    ("a list of hostile objects", [Hostile()]),
    ("a step of hostile objects", (Hostile(), Hostile(), Hostile())),
    ("a step of agreeing objects", (Agreeing(), Agreeing(), Agreeing())),
]


def anything(but=()):
    """Pairs of what to call a thing, and the thing: all but those that are told by what they are called."""
    told = [called for called, thing in _THINGS]
    for called in but:
        # A word that is none of these would leave out nothing, and nobody would see it.
        if called not in told:
            raise ValueError(called)
    return [(called, thing) for called, thing in _THINGS if called not in but]
