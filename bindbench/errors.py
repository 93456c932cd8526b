"""The errors with which the program refuses.

A message tells nothing of the very thing that was handed in: that may be so
deep, or stand so many times within itself, that it can't be written out.
"""


class BadValue(ValueError):
    """Of whatever isn't of the kind that is wanted."""

    def __init__(self, what):
        ValueError.__init__(self, what)
        self.what = what


class BadText(BadValue):
    """Of a text that can't be read, by the row and the word that can't stand."""

    def __init__(self, row, word):
        BadValue.__init__(self, "text")
        self.row = row
        self.word = word


class NoPaper(BadValue):
    """Of a paper that doesn't come out."""

    def __init__(self):
        BadValue.__init__(self, "paper")


class NoSuch(KeyError):
    """Of what isn't there; name is the very thing that was handed in."""

    def __init__(self, what, name):
        KeyError.__init__(self, what)
        self.what = what
        self.name = name


class Already(LookupError):
    """Of what is there already."""

    def __init__(self, what, name):
        LookupError.__init__(self, what)
        self.what = what
        self.name = name


class TooMany(OverflowError):
    """Of one more than there may be."""

    def __init__(self, most):
        OverflowError.__init__(self, most)
        self.most = most


class CantBe(RuntimeError):
    """Of a deed for which there is nothing to be done."""

    def __init__(self, about):
        RuntimeError.__init__(self, about)
        self.about = about


class Untold(Exception):
    """Of a story that isn't told, by the place of the deed that is refused."""

    def __init__(self, place):
        Exception.__init__(self, place)
        self.place = place
