"""That all of the interface that has landed stands in its file, under its name, with its arguments."""

import importlib
import inspect
import unittest

ERRORS = {
    "BadValue": "(what)",
    "BadText": "(row, word)",
    "NoSuch": "(what, name)",
    "TooMany": "(most)",
    "Already": "(what, name)",
    "CantBe": "(about)",
    "Untold": "(place)",
    "NoPaper": "()",
}

WORDS = {
    "is_whole": "(thing, least, most=1000000)",
    "is_name": "(thing)",
    "is_step": "(thing)",
    "kind_of": "(work)",
    "number_of": "(word)",
    "words_of": "(row)",
}

STYLES = {
    "Style": "(name, steps)",
    "Style.named": "(self)",
    "Style.steps": "(self)",
    "Style.step": "(self, number)",
    "Style.span": "(self)",
    "Style.hours": "(self, kind=None)",
    "Style.put_in": "(self, step, at=None)",
    "Style.left_out": "(self, number)",
    "Style.__eq__": "(self, other)",
    "Style.__len__": "(self)",
    "Style.__str__": "(self)",
    "Style.__repr__": "(self)",
    "Job": "(number, style, brought=0, due=None, haste=False)",
    "Job.numbered": "(self)",
    "Job.of_style": "(self)",
    "Job.brought_at": "(self)",
    "Job.due_at": "(self)",
    "Job.in_haste": "(self)",
    "Job.rank": "(self)",
    "Job.room": "(self)",
    "Job.hastened": "(self, haste=True)",
    "Job.__eq__": "(self, other)",
    "Job.__str__": "(self)",
    "Job.__repr__": "(self)",
    "by_rank": "(jobs)",
    "first_of": "(jobs)",
    "by_style": "(jobs)",
}

BENCHES = {
    "Bench": "(hands=1, presses=1)",
    "Bench.places": "(self)",
    "Bench.how_many": "(self, kind)",
    "Bench.__eq__": "(self, other)",
    "Bench.__len__": "(self)",
    "Bench.__str__": "(self)",
    "Plan": "(bench, jobs=None)",
    "Plan.jobs": "(self)",
    "Plan.rows": "(self, number=None)",
    "Plan.done": "(self, number)",
    "Plan.late": "(self, number=None)",
    "Plan.ready": "(self, number, step)",
    "Plan.held": "(self, number, step)",
    "Plan.chain": "(self, number)",
    "Plan.where": "(self, number, hour)",
    "Plan.at": "(self, hour)",
    "Plan.next_free": "(self, place, hours=1, since=0)",
    "Plan.busy": "(self, place)",
    "Plan.end": "(self)",
    "Plan.with_job": "(self, job)",
    "Plan.without_job": "(self, number)",
    "Plan.moved": "(self, other)",
    "Plan.__eq__": "(self, other)",
    "Plan.__len__": "(self)",
    "Plan.__str__": "(self)",
}

ROUNDS = {
    "Round": "(length, calls=None)",
    "Round.length": "(self)",
    "Round.total": "(self)",
    "Round.calls": "(self)",
    "Round.keeps_up": "(self)",
    "Round.begins": "(self, turn, call)",
    "Round.ends": "(self, turn, call)",
    "Round.at": "(self, hour)",
    "Round.waiting": "(self, hour)",
    "Round.how_many": "(self, hour)",
    "Round.idle": "(self, hour)",
    "Round.first_over": "(self, most)",
    "Round.__eq__": "(self, other)",
    "Round.__len__": "(self)",
    "Round.__str__": "(self)",
    "parted": "(one, other)",
}

READING = {
    "read_style": "(text)",
    "read_job": "(style, text)",
    "read_round": "(text)",
}

HALLS = {
    "Hall": "(sizes, lost=None)",
    "Hall.sizes": "(self)",
    "Hall.lost": "(self)",
    "Hall.is_slot": "(self, thing)",
    "Hall.with_lost": "(self, slot)",
    "Hall.with_found": "(self, slot)",
    "Hall.slots_of": "(self, order, most=40)",
    "Hall.how_many": "(self, order)",
    "Hall.__eq__": "(self, other)",
    "Hall.__len__": "(self)",
    "Hall.__str__": "(self)",
    "Order": "(job, size=1, first=0, last=None)",
    "Order.of_job": "(self)",
    "Order.numbered": "(self)",
    "Order.wants": "(self)",
    "Order.rank": "(self)",
    "Order.hastened": "(self, haste=True)",
    "Order.__eq__": "(self, other)",
    "Order.__len__": "(self)",
    "Order.__str__": "(self)",
    "Order.__repr__": "(self)",
}

DEALINGS = {
    "kept": "(hall, orders)",
    "put_off": "(hall, orders)",
    "bars": "(hall, orders, number)",
    "Nightbook": "(hall)",
    "Nightbook.bring": "(self, order)",
    "Nightbook.drop": "(self, number)",
    "Nightbook.hasten": "(self, number, haste=True)",
    "Nightbook.lose": "(self, slot)",
    "Nightbook.restore": "(self, slot)",
    "Nightbook.hall": "(self)",
    "Nightbook.orders": "(self)",
    "Nightbook.kept": "(self)",
    "Nightbook.dealing": "(self)",
    "Nightbook.slot_of": "(self, number)",
    "Nightbook.levels": "(self)",
    "Nightbook.copy": "(self)",
    "Nightbook.__eq__": "(self, other)",
    "Nightbook.__len__": "(self)",
}

PAPERS = {
    "kept_paper": "(hall, orders)",
    "most_paper": "(hall, orders, first, last)",
}

CHECKING = {
    "check_kept": "(hall, orders, paper)",
    "check_most": "(hall, orders, first, last, paper)",
    "check_fewest": "(hall, orders, ahead, now, paper)",
}

STUFFS = {
    "is_page": "(thing)",
    "page_text": "(page)",
    "read_page": "(text)",
    "Stock": "()",
    "Stock.put": "(self, page)",
    "Stock.pages": "(self)",
    "Stock.lots": "(self)",
    "Stock.lot_of": "(self, name)",
    "Stock.lacks": "(self, name)",
    "Stock.covers": "(self, name)",
    "Stock.sets": "(self, waiting=None)",
    "Stock.copy": "(self)",
    "Stock.__eq__": "(self, other)",
    "Stock.__len__": "(self)",
}

HOUSES = {
    "House": "(bench, hall, styles)",
    "House.do": "(self, deed)",
    "House.tell": "(self, story)",
    "House.many": "(self)",
    "House.plan": "(self)",
    "House.nightbook": "(self)",
    "House.stock": "(self)",
    "House.job": "(self, number)",
    "House.order": "(self, number)",
    "House.verdict": "(self, number)",
    "House.verdicts": "(self, word=None)",
    "House.copy": "(self)",
    "House.__eq__": "(self, other)",
    "House.__len__": "(self)",
}

DESK = {
    "Desk": "()",
    "Desk.say": "(self, line)",
}

FILES = {
    "bindbench.errors": ERRORS,
    "bindbench.words": WORDS,
    "bindbench.styles": STYLES,
    "bindbench.benches": BENCHES,
    "bindbench.rounds": ROUNDS,
    "bindbench.reading": READING,
    "bindbench.halls": HALLS,
    "bindbench.dealings": DEALINGS,
    "bindbench.papers": PAPERS,
    "bindbench.checking": CHECKING,
    "bindbench.stuffs": STUFFS,
    "bindbench.houses": HOUSES,
    "bindbench.desk": DESK,
}


def found(file, name):
    """What stands under a name in a file; a method only where its class itself defines it."""
    first, *rest = name.split(".")
    thing = vars(file)[first]
    for word in rest:
        thing = vars(thing)[word]
    return thing


class Interface(unittest.TestCase):
    def test_names_arguments_and_files(self):
        for where, names in FILES.items():
            file = importlib.import_module(where)
            for name, told in names.items():
                with self.subTest(where + " " + name):
                    thing = found(file, name)
                    self.assertEqual(str(inspect.signature(thing)), told)
                    self.assertEqual(thing.__module__, where)


if __name__ == "__main__":
    unittest.main()
