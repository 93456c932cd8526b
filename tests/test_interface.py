"""That all of the interface that has landed stands in its file, under its name, with its arguments."""

import importlib
import inspect
import unittest

ERRORS = {
    "BadValue": "(what)",
    "BadText": "(row, word)",
    "NoSuch": "(what, name)",
    "TooMany": "(most)",
    "Already": "(what, name)",
    "CantBe": "(about)",
    "Untold": "(place)",
    "NoPaper": "()",
}

WORDS = {
    "is_whole": "(thing, least, most=1000000)",
    "is_name": "(thing)",
    "is_step": "(thing)",
    "kind_of": "(work)",
    "number_of": "(word)",
    "words_of": "(row)",
}

STYLES = {
    "Style": "(name, steps)",
    "Style.named": "(self)",
    "Style.steps": "(self)",
    "Style.step": "(self, number)",
    "Style.span": "(self)",
    "Style.hours": "(self, kind=None)",
    "Style.put_in": "(self, step, at=None)",
    "Style.left_out": "(self, number)",
    "Style.__eq__": "(self, other)",
    "Style.__len__": "(self)",
    "Style.__str__": "(self)",
    "Style.__repr__": "(self)",
    "Job": "(number, style, brought=0, due=None, haste=False)",
    "Job.numbered": "(self)",
    "Job.of_style": "(self)",
    "Job.brought_at": "(self)",
    "Job.due_at": "(self)",
    "Job.in_haste": "(self)",
    "Job.rank": "(self)",
    "Job.room": "(self)",
    "Job.hastened": "(self, haste=True)",
    "Job.__eq__": "(self, other)",
    "Job.__str__": "(self)",
    "Job.__repr__": "(self)",
    "by_rank": "(jobs)",
    "first_of": "(jobs)",
    "by_style": "(jobs)",
}

FILES = {"bindbench.errors": ERRORS, "bindbench.words": WORDS, "bindbench.styles": STYLES}


def found(file, name):
    """What stands under a name in a file; a method only where its class itself defines it."""
    first, *rest = name.split(".")
    thing = vars(file)[first]
    for word in rest:
        thing = vars(thing)[word]
    return thing


class Interface(unittest.TestCase):
    def test_names_arguments_and_files(self):
        for where, names in FILES.items():
            file = importlib.import_module(where)
            for name, told in names.items():
                with self.subTest(where + " " + name):
                    thing = found(file, name)
                    self.assertEqual(str(inspect.signature(thing)), told)
                    self.assertEqual(thing.__module__, where)


if __name__ == "__main__":
    unittest.main()
