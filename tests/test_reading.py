"""That texts are read back, and where those are refused that can't stand."""

import random
import unittest

from anything import Agreeing, Hostile, Posing, anything
from benchwork import calf, some_jobs
from bindbench.errors import BadText
from bindbench.reading import read_job, read_round, read_style
from bindbench.rounds import Round
from bindbench.styles import Job, Style
from roundwork import TOLD, some_rounds

NO_TEXTS = ["a name", "a work", "a kind", "a figure", "an empty text", "a blank", "a long text", "many figures",
            "many blanks", "rows"]
STEPS = ["sew 6 0", "press 12 8", "glue 2 24"]
ROUND_ROWS = ["round 10", "0 calf 3", "4 cloth 2"]
# What tells no number, or one beyond all bounds.
NO_NUMBERS = ["-1", "+1", "01", "00", "1.0", "1,0", "0x1", "one", "1a", "a", "1_0", "10000000", "9" * 5000]


def steps_told(many):
    return [f"sew {k} 0" for k in range(1, many + 1)]


class Refusing(unittest.TestCase):
    def refused(self, row, word, read, *told, **named):
        with self.assertRaises(BadText) as held:
            read(*told, **named)
        self.assertIs(type(held.exception), BadText)
        self.assertEqual((held.exception.row, held.exception.word, held.exception.what), (row, word, "text"))

    def no_style(self, row, word, *rows):
        with self.subTest(rows):
            self.refused(row, word, read_style, "\n".join(rows))

    def no_job(self, word, text):
        with self.subTest(text):
            self.refused(1, word, read_job, calf(), text)

    def no_round(self, row, word, *rows):
        with self.subTest(rows):
            self.refused(row, word, read_round, "\n".join(rows))


class ReadStyle(Refusing):
    def test_read(self):
        style = read_style("style calf\nsew 6 0\npress 12 8\nglue 2 24")
        self.assertIs(type(style), Style)
        self.assertEqual((style.named(), style.steps()), ("calf", [("sew", 6, 0), ("press", 12, 8), ("glue", 2, 24)]))
        self.assertEqual([type(style.steps()[0])] + [type(word) for word in style.steps()[0]], [tuple, str, int, int])
        self.assertEqual(read_style(text=str(calf())), calf())

    def test_each_that_is_told_is_read_back(self):
        works = ["sew", "glue", "cover", "letter", "press"]
        for many in range(1, 13):
            style = Style("quarters"[:many % 8 + 1], [(works[k % 5], 240 - k, k * 20) for k in range(many)])
            self.assertEqual(read_style(str(style)), style)
        for hours, rest in [(1, 0), (240, 240), (10, 9)]:
            self.assertEqual(read_style(str(Style("c", [("sew", hours, rest)]))).steps(), [("sew", hours, rest)])

    def test_the_first_row(self):
        for text, word in [("", 0), (" ", 0), ("style", 2), ("style ", 0), (" style calf", 0), ("style calf ", 0),
                           ("style  calf", 0), ("Style calf", 1), ("styles calf", 1), ("calf style", 1),
                           ("job calf", 1), ("style Calf", 2), ("style style", 2), ("style quartersx", 2),
                           ("style 7", 2), ("style calf x", 3), ("style calf calf calf", 3), ("x x x", 1),
                           ("style X x", 2), ("x", 1), ("sew 6 0", 1), ("styl  e", 0), ("Style calf ", 0)]:
            self.no_style(1, word, text, *STEPS)
            self.no_style(1, word, text)

    def test_a_steps_row(self):
        for text, word in [("", 0), (" ", 0), ("sew", 2), ("sew 6", 3), ("sew 6 0 0", 4), ("sew 6 0 0 0", 4),
                           ("bind 6 0", 1), ("hand 6 0", 1), ("Sew 6 0", 1), ("6 sew 0", 1), ("style calf", 1),
                           ("sew 0 0", 2), ("sew 241 0", 2), ("sew 1 241", 3), ("sew x 0", 2), ("sew 6 x", 3),
                           ("sew 06 0", 2), ("sew 6 00", 3), ("sew -6 0", 2), ("sew 6 -1", 3), (" sew 6 0", 0),
                           ("sew 6 0 ", 0), ("sew  6 0", 0), ("bind  6 0", 0), ("bind 6", 1), ("bind 0 241 9", 1),
                           ("sew 0 241 9", 2), ("sew 6 241 9", 3), ("bind", 1), ("sew 0", 2)]:
            self.no_style(2, word, "style calf", text)
            self.no_style(2, word, "style calf", text, "sew 1 0")
            self.no_style(4, word, "style calf", "sew 6 0", "press 12 8", text, "glue 2 24")
            self.no_style(13, word, "style calf", *steps_told(11), text)

    def test_the_first_row_that_cannot_stand(self):
        self.no_style(1, 2, "style Calf", "bind 6 0")
        self.no_style(2, 3, "style calf", "sew 6 241", "", "bind")
        self.no_style(3, 0, "style calf", "sew 6 240", "", "bind")
        self.no_style(4, 1, "style calf", "sew 6 240", "sew 1 1", "bind 0 0 0", "")

    def test_numbers(self):
        for word in NO_NUMBERS:
            self.no_style(2, 2, "style calf", f"sew {word} 0")
            self.no_style(2, 3, "style calf", f"sew 1 {word}")

    def test_a_thirteenth_step(self):
        style = read_style("\n".join(["style calf"] + steps_told(12)))
        self.assertEqual(len(style), 12)
        self.no_style(14, 1, "style calf", *steps_told(13))
        self.no_style(14, 1, "style calf", *steps_told(14))
        self.no_style(14, 1, "style calf", *steps_told(12), "bind 0 0")
        self.no_style(14, 1, "style calf", *steps_told(12), "sew 1 0 0")
        self.no_style(14, 0, "style calf", *steps_told(12), "")
        self.no_style(14, 0, "style calf", *steps_told(12), "sew  1 0")
        self.no_style(14, 1, "style calf", *steps_told(12), "x", "")
        self.no_style(13, 3, "style calf", *steps_told(11), "sew 1", "sew 1 0")

    def test_without_steps(self):
        self.no_style(2, 1, "style calf")
        self.no_style(2, 0, "style calf", "")
        self.no_style(1, 2, "style Calf")
        self.no_style(1, 0, "style calf ")

    def test_line_ends(self):
        self.no_style(4, 0, "style calf", "sew 6 0", "press 12 8", "")
        self.no_style(1, 0, "", "style calf", "sew 6 0")
        self.no_style(3, 0, "style calf", "sew 6 0", "", "press 12 8")
        self.no_style(1, 0, "", "")

    def test_what_is_no_text(self):
        for called, thing in anything(but=NO_TEXTS):
            with self.subTest(called):
                self.refused(0, 0, read_style, thing)
        for thing in [calf(), Posing(str), Agreeing(), Hostile(), ["style calf", "sew 6 0"], str(calf()).encode()]:
            self.refused(0, 0, read_style, thing)

    def test_texts_that_are_none(self):
        self.refused(1, 1, read_style, "a" * 20000)
        self.refused(1, 0, read_style, " " * 20000)
        self.refused(1, 0, read_style, "\n" * 20000)
        self.refused(1, 1, read_style, str(Job(7, calf())))
        self.refused(1, 1, read_style, str(Round(10)))
        self.refused(14, 1, read_style, "style calf" + "\nsew 1 0" * 2000)
        self.refused(1, 3, read_style, text="style calf" + " x" * 9000)


class ReadJob(Refusing):
    def test_read(self):
        job = read_job(calf(), "job 7 calf 10 200")
        self.assertIs(type(job), Job)
        self.assertEqual(job, Job(7, calf(), 10, 200))
        self.assertEqual(read_job(calf(), "job 7 calf 10 200 haste"), Job(7, calf(), 10, 200, True))
        self.assertIs(read_job(calf(), "job 7 calf 10 200").in_haste(), False)
        self.assertEqual(read_job(text="job 7 calf 10 200", style=calf()), job)

    def test_each_that_is_told_is_read_back(self):
        for job in [Job(1, calf(), 0, 0), Job(99999, calf(), 10 ** 6, 10 ** 6, True), Job(7, calf(), 0, 10 ** 6),
                    Job(10, Style("quarters", [("sew", 1, 0)]), 9, 9)] + some_jobs(random.Random(50), 40):
            self.assertEqual(read_job(job.of_style(), str(job)), job)

    def test_of_that_very_style(self):
        other = Style("calf", [("sew", 1, 0)])
        self.assertEqual(read_job(other, "job 7 calf 10 200").of_style(), other)

    def test_words(self):
        for text, word in [("", 0), (" ", 0), ("job", 2), ("job 7", 3), ("job 7 calf", 4), ("job 7 calf 10", 5),
                           ("job 7 calf 10 200 haste haste", 7), ("job 7 calf 10 200 haste x y", 7),
                           ("job 7 calf 10 200 x", 6), ("job 7 calf 10 200 Haste", 6), ("job 7 calf 10 200 calm", 6),
                           ("job 7 calf 10 200 x haste", 6), ("job 7 calf 10 200 300", 6), ("Job 7 calf 10 200", 1),
                           ("style calf", 1), ("7 calf 10 200", 1), ("job calf 7 10 200", 2),
                           ("job 7 cloth 10 200", 3), ("job 7 cal 10 200", 3), ("job 7 calfs 10 200", 3),
                           ("job 7 Calf 10 200", 3), ("job 7 10 200", 3), ("job 7 calf x 200", 4),
                           ("job 7 calf 10 x", 5), ("job 7 calf haste", 4), ("job 7 calf 10 haste", 5), ("haste", 1),
                           ("job 7 haste 10 200", 3)]:
            self.no_job(word, text)

    def test_blanks(self):
        for text in [" job 7 calf 10 200", "job 7 calf 10 200 ", "job  7 calf 10 200", "job 7 calf 10  200",
                     "job 7 calf 10 200 haste ", "job 7 calf 10 200  haste", "x  x", "job 0 cloth 10 9  x", "  "]:
            self.no_job(0, text)

    def test_the_first_word_that_cannot_stand(self):
        for text, word in [("jo 0 cloth 10 9 x", 1), ("job 0 cloth 10 9 x", 2), ("job 7 cloth x 9 x", 3),
                           ("job 7 calf 1000001 9 x", 4), ("job 7 calf 10 9 x", 5), ("job 7 calf 10 9 haste x", 5),
                           ("job 7 calf 10 10 x x", 6), ("job 0 cloth", 2), ("job 7 cloth", 3), ("job 7 calf x", 4)]:
            self.no_job(word, text)

    def test_numbers_at_each_bound_and_beyond(self):
        for number in (1, 99999):
            self.assertEqual(read_job(calf(), f"job {number} calf 10 200").numbered(), number)
        for number in (0, 100000, 999999):
            self.no_job(2, f"job {number} calf 10 200")
        for brought in (0, 200):
            self.assertEqual(read_job(calf(), f"job 7 calf {brought} 200").brought_at(), brought)
        self.no_job(5, "job 7 calf 201 200")
        self.no_job(5, "job 7 calf 1 0")
        self.no_job(5, "job 7 calf 100 99")
        for due in (10, 11, 10 ** 6):
            self.assertEqual(read_job(calf(), f"job 7 calf 10 {due}").due_at(), due)
        for due in (0, 9, 10 ** 6 + 1):
            self.no_job(5, f"job 7 calf 10 {due}")
        self.no_job(4, f"job 7 calf {10 ** 6 + 1} {10 ** 6 + 1}")
        self.assertEqual(read_job(calf(), f"job 7 calf {10 ** 6} {10 ** 6}").due_at(), 10 ** 6)

    def test_numbers(self):
        for word in NO_NUMBERS:
            self.no_job(2, f"job {word} calf 10 200")
            self.no_job(4, f"job 7 calf {word} 200")
            self.no_job(5, f"job 7 calf 10 {word}")

    def test_a_line_end_is_a_sign_of_a_word(self):
        for text, word in [("job 7 calf 10 200\n", 5), ("job 7 calf 10 200\nhaste", 5), ("job\n7 calf 10 200", 1),
                           ("job 7\ncalf 10 200", 2), ("job 7 calf\n10 200", 3), ("\njob 7 calf 10 200", 1),
                           ("job 7 calf 10 200 haste\n", 6), ("job 7 calf 10\n 200", 4), ("\n", 1),
                           ("job 7 calf 10 200 \nhaste", 6), ("job 7 calf 10 200 haste \n", 7), ("\n ", 0)]:
            self.no_job(word, text)

    def test_what_is_no_text(self):
        for called, thing in anything(but=NO_TEXTS):
            with self.subTest(called):
                self.refused(0, 0, read_job, calf(), thing)
        for thing in [Job(7, calf()), Posing(str), Agreeing(), Hostile(), ["job 7 calf 10 200"]]:
            self.refused(0, 0, read_job, calf(), thing)

    def test_what_is_no_style(self):
        for called, thing in anything():
            with self.subTest(called):
                self.assertRaises(BadText, read_job, thing, "job 7 calf 10 200")
                self.assertRaises(BadText, read_job, thing, "job 7")
                self.refused(0, 0, read_job, thing, None)

    def test_texts_that_are_none(self):
        self.refused(1, 1, read_job, calf(), "a" * 20000)
        self.refused(1, 0, read_job, calf(), " " * 20000)
        self.refused(1, 1, read_job, calf(), "\n" * 20000)
        self.refused(1, 1, read_job, calf(), str(calf()))
        self.refused(1, 7, read_job, calf(), "job 7 calf 10 200" + " haste" * 3000)


class ReadRound(Refusing):
    def test_read(self):
        one = read_round("round 10\n0 calf 3\n4 cloth 2")
        self.assertIs(type(one), Round)
        self.assertEqual((one.length(), one.calls()), (10, [(0, "calf", 3), (4, "cloth", 2)]))
        self.assertEqual(read_round("round 7"), Round(7))
        self.assertEqual(read_round(text="round 10\n0 calf 3"), Round(10, [(0, "calf", 3)]))

    def test_each_that_is_told_is_read_back(self):
        told = TOLD + list(some_rounds(51, 60)) + [(1000, [(k * 90, "quarters", 1000) for k in range(12)])]
        for length, calls in told:
            one = Round(length, calls)
            self.assertEqual(read_round(str(one)), one)

    def test_the_first_row(self):
        for text, word in [("", 0), (" ", 0), ("round", 2), ("round ", 0), (" round 10", 0), ("round  10", 0),
                           ("Round 10", 1), ("rounds 10", 1), ("10", 1), ("round 0", 2), ("round 1001", 2),
                           ("round x", 2), ("round 010", 2), ("round -1", 2), ("round 10 10", 3), ("round 10 x x", 3),
                           ("round 0 x", 2), ("rnd 0 x", 1), ("style calf", 1), ("round calf", 2)]:
            self.no_round(1, word, text, *ROUND_ROWS[1:])
            self.no_round(1, word, text)
        for length in (1, 1000):
            self.assertEqual(read_round(f"round {length}").length(), length)

    def test_a_calls_row(self):
        for text, word in [("", 0), (" ", 0), ("5", 2), ("5 calf", 3), ("5 calf 1 1", 4), ("5 calf 1 x y", 4),
                           ("x calf 1", 1), ("calf 5 1", 1), ("10 calf 1", 1), ("11 calf 1", 1), ("05 calf 1", 1),
                           ("-1 calf 1", 1), ("5 Calf 1", 2), ("5 press 1", 2), ("5 quartersx 1", 2), ("5 7 1", 2),
                           ("5 calf 0", 3), ("5 calf 1001", 3), ("5 calf x", 3), ("5 calf 01", 3), (" 5 calf 1", 0),
                           ("5 calf 1 ", 0), ("5  calf 1", 0), ("10  press 0", 0), ("10 press 0 x", 1),
                           ("5 press 0 x", 2), ("5 calf 0 x", 3), ("10", 1), ("5 press", 2), ("round 10", 1)]:
            self.no_round(2, word, "round 10", text)
            self.no_round(4, word, "round 10", "0 calf 3", "4 cloth 2", text, "9 calf 1")
        for hours in (1, 1000):
            self.assertEqual(read_round(f"round 10\n9 calf {hours}").calls(), [(9, "calf", hours)])

    def test_at_not_below_the_one_ahead(self):
        self.assertEqual(read_round("round 10\n4 a 1\n4 b 1\n9 c 1").calls(), [(4, "a", 1), (4, "b", 1), (9, "c", 1)])
        self.no_round(3, 1, "round 10", "4 a 1", "3 b 1")
        self.no_round(4, 1, "round 10", "4 a 1", "9 b 1", "4 c 1")
        self.no_round(5, 1, "round 10", "0 a 1", "1 a 1", "2 b 1", "0 c 1")
        self.no_round(3, 0, "round 10", "4 a 1", "3  b 1")
        self.no_round(3, 1, "round 10", "4 a 1", "3 B 0 x")

    def test_at_below_length(self):
        for length in (1, 2, 1000):
            self.assertEqual(read_round(f"round {length}\n{length - 1} a 1").calls(), [(length - 1, "a", 1)])
            self.no_round(2, 1, f"round {length}", f"{length} a 1")

    def test_the_first_row_that_cannot_stand(self):
        self.no_round(1, 2, "round 0", "x")
        self.no_round(2, 3, "round 10", "4 a 0", "3 b 1", "")
        self.no_round(3, 1, "round 10", "4 a 1", "3 b 1", "")
        self.no_round(4, 0, "round 10", "4 a 1", "4 b 1", "")

    def test_numbers(self):
        for word in NO_NUMBERS:
            self.no_round(1, 2, f"round {word}")
            self.no_round(2, 1, "round 10", f"{word} calf 1")
            self.no_round(2, 3, "round 10", f"0 calf {word}")

    def test_a_thirteenth_call(self):
        rows = [f"{k} calf 1" for k in range(14)]
        self.assertEqual(len(read_round("\n".join(["round 20"] + rows[:12]))), 12)
        self.no_round(14, 1, "round 20", *rows[:13])
        self.no_round(14, 1, "round 20", *rows)
        self.no_round(14, 1, "round 20", *rows[:12], "12 press 0")
        self.no_round(14, 1, "round 20", *rows[:12], "12 calf 1 1")
        self.no_round(14, 0, "round 20", *rows[:12], "")
        self.no_round(14, 0, "round 20", *rows[:12], "12 calf  1")
        self.no_round(13, 2, "round 20", *rows[:11], "12 press 0", rows[13])

    def test_line_ends(self):
        self.no_round(2, 0, "round 10", "")
        self.no_round(3, 0, "round 10", "0 calf 1", "")
        self.no_round(1, 0, "", "round 10")
        self.no_round(3, 0, "round 10", "0 calf 1", "", "0 calf 1")

    def test_what_is_no_text(self):
        for called, thing in anything(but=NO_TEXTS):
            with self.subTest(called):
                self.refused(0, 0, read_round, thing)
        for thing in [Round(10), Posing(str), Agreeing(), Hostile(), ["round 10"], 10]:
            self.refused(0, 0, read_round, thing)

    def test_texts_that_are_none(self):
        self.refused(1, 1, read_round, "a" * 20000)
        self.refused(1, 0, read_round, " " * 20000)
        self.refused(1, 0, read_round, "\n" * 20000)
        self.refused(1, 1, read_round, str(calf()))
        self.refused(14, 1, read_round, "round 10" + "\n0 a 1" * 3000)


class Changed(unittest.TestCase):
    """Each text with one sign of it left out, doubled or put in another's place is refused, or is another thing's."""

    def signs_changed(self, text):
        for at in range(len(text)):
            for sign in ["", text[at] * 2, " ", "0", "1", "x", "\n", "-"]:
                if sign != text[at]:
                    yield text[:at] + sign + text[at + 1:]

    def compare(self, read, text):
        many = {True: 0, False: 0}
        for changed in self.signs_changed(text):
            try:
                thing = read(changed)
            except BadText:
                many[False] += 1
                continue
            many[True] += 1
            self.assertEqual(str(thing), changed)
        self.assertGreater(min(many.values()), 5)

    def test_styles(self):
        self.compare(read_style, str(calf()))

    def test_jobs(self):
        self.compare(lambda text: read_job(calf(), text), str(Job(71, calf(), 100, 2000, True)))

    def test_rounds(self):
        self.compare(read_round, str(Round(10, [(0, "calf", 3), (4, "cloth", 2), (9, "calf", 150)])))


if __name__ == "__main__":
    unittest.main()
