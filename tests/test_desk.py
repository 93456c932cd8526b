"""The desk: each line ahead of begin and behind it, each answer, and each refusal."""

import unittest

from anything import Posing, anything
from bindbench.benches import Bench
from bindbench.desk import Desk
from bindbench.halls import Hall
from bindbench.houses import House
from bindbench.styles import Style
from housework import some_deeds
from stockwork import letters

CALF_LINE = "style calf ; sew 6 0 ; press 12 8 ; glue 2 24"
CLOTH_LINE = "style cloth ; sew 3 0 ; cover 1 0"
NO_LINE = "no line"
AHEAD = ["bench 2 1", "hall 12 12 30", CALF_LINE, "begin"]
BEHIND = ["job 7 cloth 0 200", "job 7 cloth 0 200 haste", "order 7 12 100 104", "lot 3 red oaka 500",
          "set 4 dukes red 7 12 9 30", "spoil 5 dukes 7", "haste 7", "calm 7", "gone 7", "lost 100 2", "found 100 2",
          "back", "again", "verdict 7", "verdicts", "kept", "dealt", "lots", "at 30"]


def desk_told(*lines):
    """A desk to which these were told, each of which it answered by "done"."""
    desk = Desk()
    for line in lines:
        answer = desk.say(line)
        if answer.split(" ; ")[0] != "done":
            raise ValueError(line, answer)
    return desk


def opened(*lines):
    return desk_told("bench 1 1", "hall 10 20", CALF_LINE, CLOTH_LINE, "begin", *lines)


class Asked(unittest.TestCase):
    def answers(self, desk, *pairs):
        for line, answer in pairs:
            with self.subTest(line):
                self.assertEqual(desk.say(line), answer)


class AheadOfBegin(Asked):
    def test_done(self):
        desk = Desk()
        self.answers(desk, *[(line, "done") for line in AHEAD])
        self.assertEqual(Desk().say(line="bench 9 9"), "done")

    def test_of_those_that_were_not_told(self):
        # One hand, one press, and one frame of size 60.
        desk = desk_told(CLOTH_LINE, "begin", "job 1 cloth 0 100", "job 2 cloth 0 200")
        self.answers(desk, ("at 0", "hand 1 1 1"), ("order 1 60 0 0", "done ; in 1"), ("order 2 1 0 0", "done"),
                     ("lost 0 2", "no such slot"), ("lost 0 1", "done ; out 1"))

    def test_those_told_last(self):
        desk = desk_told("bench 1 1", "hall 60 60", CLOTH_LINE, "hall 5", "bench 3 1", "begin", "job 1 cloth 0 100",
                         "job 2 cloth 0 200", "job 3 cloth 0 300")
        self.answers(desk, ("at 0", "hand 1 1 1 ; hand 2 2 1 ; hand 3 3 1"), ("order 1 6 0 0", "done"),
                     ("order 2 5 0 0", "done ; in 2"), ("lost 0 2", "no such slot"))

    def test_refused_ones_change_nothing(self):
        desk = desk_told("bench 1 1", "hall 5", CLOTH_LINE)
        self.answers(desk, ("bench 0 1", NO_LINE), ("hall 61", NO_LINE), ("style calf", "bad word 2 1"),
                     ("style cloth ; sew 1 0", "already style"), ("begin", "done"), ("job 1 cloth 0 100", "done"),
                     ("job 2 calf 0 100", "no such style"), ("order 1 5 0 0", "done ; in 1"),
                     ("lost 0 2", "no such slot"))

    def test_benches_and_halls_by_their_form(self):
        for line in ["bench", "bench 2", "bench 2 1 1", "bench 0 1", "bench 1 0", "bench 10 1", "bench 1 10",
                     "bench x 1",
                     "bench 02 1", "bench 2 -1", "Bench 2 1", "bench 2  1", " bench 2 1", "bench 2 1 ", "bench 2 1\n",
                     "\nbench 2 1", "bench\n2 1", "hall", "hall 0", "hall 61", "hall" + " 12" * 10, "hall 12 x",
                     "hall 012", "hall 12 lost 100 1", "hall 12 ", "hall  12", "halls 12", "hall 12\n", "hall 1.0",
                     "hall 12 -1", "benches 1 1"]:
            self.answers(Desk(), (line, NO_LINE))
        for line in ["bench 1 1", "bench 9 9", "hall 1", "hall 60", "hall" + " 12" * 9]:
            self.answers(Desk(), (line, "done"))

    def test_begin(self):
        desk = Desk()
        self.answers(desk, ("begin", "no such style"), ("begin now", NO_LINE), ("begin ", NO_LINE), ("Begin", NO_LINE),
                     ("bench 2 1", "done"), ("begin", "no such style"), ("lots", NO_LINE), (CALF_LINE, "done"),
                     ("begin", "done"), ("lots", "none"))

    def test_all_others_are_no_lines(self):
        desk = desk_told(CLOTH_LINE)
        for line in BEHIND + ["", " ", "x", "style", "styles", "done", "none", "; ;"]:
            self.answers(desk, (line, NO_LINE))
        self.answers(desk, ("begin", "done"))


class StyleLines(Asked):
    def test_read(self):
        desk = desk_told(CALF_LINE, "style a ; letter 240 240", "style steps" + " ; sew 1 0" * 12, "begin")
        self.answers(desk, ("job 1 calf 0 52", "done"), ("verdict 1", "met 0"), ("job 2 a 0 480", "done"),
                     ("job 3 steps 0 999", "done"))

    def test_bad_words(self):
        for line, row, word in [
            ("style ", 1, 0), ("style  ", 1, 0), ("style  calf", 1, 0), ("style calf ", 1, 0), ("style x x", 1, 3),
            ("style Calf ; sew 1 0", 1, 2), ("style job ; sew 1 0", 1, 2), ("style calf", 2, 1),
            ("style calf ; ", 2, 0),
            ("style calf ;", 1, 3), ("style calf ; sew", 2, 2), ("style calf ; sew 1", 2, 3),
            ("style calf;sew 1 0", 1, 2),
            ("style calf ; sew 1 0 0", 2, 4), ("style calf ; sew 0 0", 2, 2), ("style calf ; sew 1 241", 2, 3),
            ("style calf ; sew 1 0 ;", 2, 4), ("style calf ; sew 1 0 ; ", 3, 0), ("style calf  ; sew 1 0", 1, 0),
            ("style calf ;  sew 1 0", 2, 0), ("style calf ; sew  1 0", 2, 0), ("style calf ; sew 1 0 ", 2, 0),
            ("style calf ;  ; sew 1 0", 2, 0), ("style calf ; ; sew 1 0", 2, 1),
            ("style calf ; sew 1 0 ; bind 1 0", 3, 1),
            ("style calf" + " ; sew 1 0" * 13, 14, 1), ("style  ; sew 1 0", 1, 0), ("style ; sew 1 0", 1, 2),
        ]:
            self.answers(Desk(), (line, f"bad word {row} {word}"))

    def test_line_ends_are_no_lines(self):
        for line in ["style calf\nsew 1 0", "style calf ; sew 1 0\n", "\nstyle calf ; sew 1 0", "style \n",
                     "style\n x"]:
            self.answers(Desk(), (line, NO_LINE))

    def test_not_a_style_line(self):
        for line in ["style", " style calf ; sew 1 0", "Style calf ; sew 1 0", "styles calf ; sew 1 0", "stylecalf"]:
            self.answers(Desk(), (line, NO_LINE))

    def test_a_second_style_of_a_name(self):
        desk = desk_told(CALF_LINE)
        self.answers(desk, (CALF_LINE, "already style"), ("style calf ; sew 1 0", "already style"),
                     ("style calf ; sew 0 0", "bad word 2 2"), (CLOTH_LINE, "done"))

    def test_a_thirteenth_style(self):
        desk = desk_told(*[f"style {letters(number)} ; sew 1 0" for number in range(12)])
        self.answers(desk, ("style new ; sew 1 0", "full 12"), ("style q ; sew 1 0", "full 12"),
                     ("style new ; sew 0 0", "bad word 2 2"), ("begin", "done"))
        self.answers(desk, *[(f"job {number + 1} {letters(number)} 0 9", "done") for number in range(12)])
        self.answers(desk, ("job 99 new 0 9", "no such style"))

    def test_names_that_are_words_elsewhere(self):
        for name in ["steps", "hands", "presses", "due", "rest", "hours", "done", "none", "bench", "hall", "begin",
                     "order",
                     "lost", "found", "back", "again", "verdict", "kept", "dealt", "lots", "at", "lot", "set", "spoil",
                     "gone", "calm", "met", "off", "late", "lacks", "page", "in", "out", "slot", "self", "none"]:
            desk = desk_told(f"style {name} ; sew 1 0", "begin", f"job 1 {name} 0 9", f"set 3 {name} {name} 1 5")
            self.answers(desk, ("verdict 1", f"lacks {name} 5"), (f"lot 4 {name} {name} 9", f"done ; set {name}"),
                         ("lots", f"{name} 4 5 0"), (f"spoil 5 {name} 1", f"done ; set {name}"))


class Deeds(Asked):
    def test_each(self):
        self.answers(
            opened(), ("job 7 cloth 0 200", "done"), ("job 8 cloth 0 100", "done ; bench 7"),
            ("job 9 cloth 0 300 haste", "done ; bench 7 ; bench 8"), ("calm 9", "done ; bench 7 ; bench 8 ; bench 9"),
            ("calm 9", "done"), ("order 7 5 100 100", "done ; in 7"), ("order 8 11 100 101", "done ; in 8"),
            ("order 9 15 100 100", "done ; in 9 ; slot 8"), ("lost 100 2", "done ; out 9"),
            ("found 100 2", "done ; in 9"), ("haste 9", "done ; bench 7 ; bench 8 ; bench 9"), ("haste 9", "done"),
            ("set 4 dukes red 7 12 9 30", "done"), ("lot 3 red oaka 500", "done ; set dukes"),
            ("spoil 5 dukes 7", "done"), ("spoil 5 dukes 7", "done"), ("gone 9", "done ; bench 7 ; bench 8 ; out 9"),
            ("back", "done ; bench 7 ; bench 8 ; in 9"), ("again", "done ; bench 7 ; bench 8 ; out 9"))

    def test_no_such_and_already_and_cannot_be(self):
        self.answers(
            opened("job 7 cloth 0 200", "order 7 5 100 100", "lot 3 red oaka 500", "set 4 dukes red 7 12"),
            ("job 8 linen 0 9", "no such style"), ("job 7 linen 0 9", "no such style"),
            ("job 7 calf 0 9", "already job"),
            ("order 8 5 0 0", "no such job"), ("order 7 5 0 0", "already order"), ("haste 8", "no such job"),
            ("calm 8", "no such job"), ("gone 8", "no such job"), ("lost 0 3", "no such slot"),
            ("lost 100000 1", "no such slot"), ("lost 0 0", "no such slot"), ("lost 9999999 9999999", "no such slot"),
            ("found 0 1", "no such slot"), ("found 0 9", "no such slot"), ("lot 3 red oaka 501", "already lot"),
            ("set 9 dukes red 7 12", "already set"), ("lot 3 red oaka 500", "done"), ("again", "can't be"),
            ("verdict 8", "no such job"), ("verdict 99999", "no such job"))
        self.answers(opened(), ("back", "can't be"), ("again", "can't be"))

    def test_full(self):
        desk = opened(*[f"job {number} cloth 0 200" for number in range(1, 41)])
        self.answers(desk, ("job 41 cloth 0 200", "full 40"), ("job 40 cloth 0 200", "already job"),
                     ("job 41 linen 0 200", "no such style"), ("job 41 cloth 2 1", NO_LINE))
        desk = opened(*[f"lost {night} 1" for night in range(100)])
        self.answers(desk, ("lost 0 2", "full 100"), ("lost 0 1", "done"), ("lost 0 3", "no such slot"))
        desk = opened(*[f"spoil 1 a {number}" for number in range(1, 101)])
        self.answers(desk, ("spoil 1 a 101", "full 100"), ("spoil 1 a 100", "done"), ("lot 1 red a 5", "full 100"))

    def test_no_lines(self):
        desk = opened("job 7 cloth 0 200", "order 7 5 100 100", "lot 3 red oaka 500", "set 4 dukes red 7 12")
        for line in BEHIND:
            for other in [line + " ", " " + line, line.replace(" ", "  ", 1) + "  x", line + "\n", "\n" + line,
                          line + " x", line.upper(), line + " 7 7", line.replace("7", "07"), line.replace("7", "-7"),
                          line.replace(" 1", " 01"), line.replace(" 2", " +2")]:
                if other != line:
                    self.answers(desk, (other, NO_LINE))
        self.answers(desk, *[(line, NO_LINE) for line in AHEAD + [CLOTH_LINE, "style x", "style ", "style"]])
        for line in ["job 7 cloth 0", "job 0 cloth 0 9", "job 100000 cloth 0 9", "job 8 Cloth 0 9", "job 8 press 0 9",
                     "job 8 cloth 9 8", "job 8 cloth 0 1000001", "job 8 cloth x 9", "job 8 cloth 0 x",
                     "job x cloth 0 9",
                     "job 8 cloth 0 9 hastes", "job 8 cloth 0 9 haste haste", "job 8 cloth 0 9 calm", "order 7 5 100",
                     "order 0 5 0 0", "order 7 0 0 0", "order 7 61 0 0", "order 7 5 1 0", "order 7 5 0 31",
                     "order 7 5 100000 100000", "order 100000 5 0 0", "haste", "haste 0", "haste 100000",
                     "haste 7 True",
                     "calm", "calm x", "gone", "gone 0", "gone 100000", "gone x", "lost", "lost 100", "lost 100 x",
                     "lost x 2", "lost 100 2 3", "found 100", "found x 2", "lot 3 red oaka", "lot 3 red oaka 0",
                     "lot x red oaka 5", "set 4 earls red 7", "set 4 earls red 7 12 7 12", "spoil 5 dukes",
                     "spoil 5 dukes 0", "page lot 3 red oaka 500", "back 1", "again 1", "verdict", "verdict 0",
                     "verdict 100000", "verdict x", "verdict 7 7", "at", "at x", "at 1000001", "at -1", "at 1 1",
                     "at 01", "verdicts 7", "kept 7", "dealt 7", "lots 7", "", " ", "x", "done", "say", "plan", "7",
                     "lost 100 2;", "job 8 cloth 0 9 ; job 9 cloth 0 9"]:
            self.answers(desk, (line, NO_LINE))
        self.answers(desk, ("verdicts", "7 met"), ("kept", "7"), ("lots", "oaka 488 12 0"))

    def test_of_anything(self):
        for desk in (Desk(), opened()):
            for called, thing in anything(but=["rows"]):
                with self.subTest(called):
                    self.assertEqual(desk.say(thing), NO_LINE)
            for thing in [b"lots", ["lots"], ("back",), Posing(str), 7, "lots\n"]:
                self.assertEqual(desk.say(thing), NO_LINE)
        self.answers(Desk(), ("style calf\nsew 1 0", NO_LINE), ("style " + "x" * 19000, "bad word 1 2"),
                     ("style " + "x " * 9000 + "x", "bad word 1 3"), ("job " + "9" * 19000, NO_LINE))
        self.answers(opened(), ("job " + "9" * 19000 + " cloth 0 9", NO_LINE), ("at " + "1" * 5000, NO_LINE),
                     ("lost 1 " + "1" * 5000, NO_LINE))


class Questions(Asked):
    def test_none_of_these(self):
        self.answers(opened(), *[(line, "none") for line in ("verdicts", "kept", "dealt", "lots", "at 0", "at 30")])

    def test_verdict(self):
        desk = opened("job 7 cloth 0 3", "job 8 cloth 0 3", "job 9 cloth 0 99", "job 4 cloth 0 98", "job 5 cloth 0 97",
                      "order 9 5 1 1", "order 4 5 1 1", "order 5 5 1 1", "set 4 dukes red 4 12", "job 6 cloth 0 96",
                      "order 6 25 0 0")
        self.answers(desk, ("verdict 7", "late 1 7"), ("verdict 8", "late 5 7 8"), ("verdict 4", "lacks dukes 12"),
                     ("verdict 5", "met 81"), ("verdict 9", "off 4 5"), ("verdict 6", "off"))
        self.answers(desk, ("verdicts", "7 late ; 8 late ; 6 off ; 5 met ; 4 lacks ; 9 off"), ("kept", "5 4"))

    def test_kept_and_dealt(self):
        desk = opened("job 7 cloth 0 30", "job 8 cloth 0 20", "job 9 cloth 0 10", "order 7 5 2 2", "order 8 15 1 1",
                      "order 9 15 0 0")
        self.answers(desk, ("kept", "9 8 7"), ("lost 2 2", "done"), ("dealt", "7 2 1 ; 8 1 2 ; 9 0 2"),
                     ("haste 7", "done ; bench 7 ; bench 8 ; bench 9"), ("kept", "7 9 8"),
                     ("gone 9", "done ; bench 8 ; out 9"), ("kept", "7 8"), ("dealt", "7 2 1 ; 8 1 2"))

    def test_lots(self):
        desk = opened("lot 3 red oaka 60", "lot 1 blue oak 5", "set 4 dukes red 7 12 9 30", "spoil 5 dukes 7")
        self.answers(desk, ("lots", "oak 5 0 0 ; oaka 6 42 12"), ("spoil 6 dukes 7", "done ; set dukes"),
                     ("lots", "oak 5 0 0 ; oaka 6 0 54"))

    def test_at(self):
        desk = desk_told("bench 2 1", CALF_LINE, "begin", "job 7 calf 0 200", "job 9 calf 0 300")
        self.answers(desk, ("at 0", "hand 1 7 1 ; hand 2 9 1"), ("at 6", "press 1 7 2"), ("at 18", "press 1 9 2"),
                     ("at 29", "press 1 9 2"), ("at 26", "hand 1 7 3 ; press 1 9 2"), ("at 1000000", "none"))

    def test_as_the_house_tells(self):
        for seed in range(140, 146):
            desk = desk_told("bench 1 1", "hall 10 20", CALF_LINE, CLOTH_LINE, "begin")
            house = House(Bench(1, 1), Hall([10, 20]), [style_of(CALF_LINE), style_of(CLOTH_LINE)])
            for deed in some_deeds(seed, 80):
                if deed != ("page", None):
                    self.assertEqual(desk.say(line_of(deed)), answer_of(house, deed))
            book, stock = house.nightbook(), house.stock()
            self.answers(
                desk, ("verdicts", rows((number, verdict[0]) for number, verdict in house.verdicts())),
                ("kept", " ".join(str(number) for number in book.kept()) or "none"),
                ("dealt", rows((number,) + slot for number, slot in book.dealing())), ("lots", rows(stock.lots())),
                ("at 9", rows(place + (number, step) for place, number, step in house.plan().at(9))))
            for number, verdict in house.verdicts():
                words = [word for part in verdict for word in (part if type(part) is tuple else (part,))]
                self.answers(desk, (f"verdict {number}", " ".join(str(word) for word in words)))

    def test_two_desks_know_nothing_of_each_other(self):
        one, other = opened("job 7 cloth 0 9"), opened()
        self.answers(other, ("verdicts", "none"), ("job 7 cloth 0 9", "done"), ("gone 7", "done"))
        self.answers(one, ("verdicts", "7 met"))


def style_of(line):
    head, *steps = line.split(" ; ")
    return Style(head.split()[1], [(work, int(hours), int(rest)) for work, hours, rest in map(str.split, steps)])


def rows(told):
    return " ; ".join(" ".join(str(word) for word in row) for row in told) or "none"


def line_of(deed):
    """The line by which a deed is told."""
    word, *told = deed
    if word == "job":
        return f"job {told[0]} {told[1]} {told[2]} {told[3]}" + " haste" * told[4]
    if word == "haste":
        return ("haste " if told[1] else "calm ") + str(told[0])
    if word in ("lost", "found"):
        return f"{word} {told[0][0]} {told[0][1]}"
    if word == "page":
        page = told[0]
        parts = [word for part in page for word in (sum(part, ()) if type(part) is tuple else (part,))]
        return " ".join(str(part) for part in parts)
    return " ".join(str(part) for part in deed)


def answer_of(house, deed):
    """What a desk answers to a deed that is done in a house that stands as its own."""
    try:
        return rows([("done",)] + list(house.do(deed)))
    except KeyError as error:
        return f"no such {error.what}"
    except LookupError as error:
        return f"already {error.what}"
    except RuntimeError:
        return "can't be"


if __name__ == "__main__":
    unittest.main()
