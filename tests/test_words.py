import unittest

from anything import anything
from bindbench.words import is_name, is_step, is_whole, kind_of, number_of, words_of

NO_NAMES = ["style", "job", "round", "sew", "glue", "cover", "letter", "press", "hand", "haste"]
KINDS = [("sew", "hand"), ("glue", "hand"), ("cover", "hand"), ("letter", "hand"), ("press", "press")]


class Whole(unittest.TestCase):
    def test_at_each_bound_and_beyond(self):
        for least, most in [(1, 99999), (0, 10 ** 6), (1, 240), (-5, -2), (3, 3), (0, 10 ** 18)]:
            for thing, so in [(least - 1, False), (least, True), (most, True), (most + 1, False)]:
                with self.subTest(f"{thing} from {least} to {most}"):
                    self.assertIs(is_whole(thing, least, most), so)

    def test_most_left_out_is_a_million(self):
        self.assertIs(is_whole(10 ** 6, 0), True)
        self.assertIs(is_whole(10 ** 6 + 1, 0), False)
        self.assertIs(is_whole(0, 0), True)
        self.assertIs(is_whole(-1, 0), False)

    def test_none_between(self):
        self.assertIs(is_whole(2, 3, 1), False)

    def test_by_names_in_another_order(self):
        self.assertIs(is_whole(most=5, thing=5, least=1), True)
        self.assertIs(is_whole(most=5, thing=6, least=1), False)
        self.assertIs(is_whole(least=2, thing=1), False)

    def test_of_anything(self):
        whole = ["zero", "one", "two", "minus one"]
        for called, thing in anything(but=whole):
            with self.subTest(called):
                self.assertIs(is_whole(thing, -5, 5), False)
        for called, thing in anything():
            if called in whole:
                with self.subTest(called):
                    self.assertIs(is_whole(thing, -5, 5), True)


class Name(unittest.TestCase):
    def test_lengths(self):
        for many in range(1, 9):
            self.assertIs(is_name("c" * many), True)
        self.assertIs(is_name(""), False)
        self.assertIs(is_name("c" * 9), False)

    def test_each_small_letter(self):
        for letter in "abcdefghijklmnopqrstuvwxyz":
            self.assertIs(is_name(letter), True)
            self.assertIs(is_name("calf" + letter), True)

    def test_each_other_sign(self):
        others = [chr(k) for k in range(32, 127) if not 97 <= k <= 122] + ["\n"]
        for sign in others:
            with self.subTest(ord(sign)):
                self.assertIs(is_name(sign), False)
                self.assertIs(is_name(sign + "calf"), False)
                self.assertIs(is_name("ca" + sign + "lf"), False)
                self.assertIs(is_name("calf" + sign), False)

    def test_words_that_no_name_may_be(self):
        for word in NO_NAMES:
            with self.subTest(word):
                self.assertIs(is_name(word), False)
                self.assertIs(is_name(word[:-1]), True)
                self.assertIs(is_name(word + "s"), True)
                self.assertIs(is_name("x" + word), True)

    def test_other_words_of_the_program_may_be_names(self):
        for word in ["hour", "order", "lot", "set", "spoil", "hall", "bench", "rest", "begin", "step"]:
            with self.subTest(word):
                self.assertIs(is_name(word), True)

    def test_by_name(self):
        self.assertIs(is_name(thing="calf"), True)

    def test_of_anything(self):
        for called, thing in anything(but=["a name"]):
            with self.subTest(called):
                self.assertIs(is_name(thing), False)


class Step(unittest.TestCase):
    def test_each_work(self):
        for work, kind in KINDS:
            with self.subTest(work):
                self.assertIs(is_step((work, 1, 0)), True)

    def test_no_work(self):
        for work in ["", "hand", "calf", "Sew", "sew ", " sew", "rest", "style", None, 1, ("sew",), ["sew"]]:
            with self.subTest(repr(work)):
                self.assertIs(is_step((work, 1, 0)), False)

    def test_hours(self):
        for hours, so in [(-1, False), (0, False), (1, True), (240, True), (241, False)]:
            with self.subTest(hours):
                self.assertIs(is_step(("glue", hours, 5)), so)

    def test_rest(self):
        for rest, so in [(-1, False), (0, True), (1, True), (240, True), (241, False)]:
            with self.subTest(rest):
                self.assertIs(is_step(("glue", 5, rest)), so)

    def test_how_many(self):
        for thing in [(), ("sew",), ("sew", 1), ("sew", 1, 0, 0)]:
            with self.subTest(repr(thing)):
                self.assertIs(is_step(thing), False)

    def test_a_list_is_none(self):
        self.assertIs(is_step(["sew", 1, 0]), False)

    def test_by_name(self):
        self.assertIs(is_step(thing=("sew", 1, 0)), True)

    def test_of_anything(self):
        for called, thing in anything(but=["a step"]):
            with self.subTest(called):
                self.assertIs(is_step(thing), False)

    def test_of_anything_within_it(self):
        for called, thing in anything(but=["a work"]):
            with self.subTest(called):
                self.assertIs(is_step((thing, 1, 1)), False)
        for called, thing in anything(but=["one", "two"]):
            with self.subTest(called):
                self.assertIs(is_step(("sew", thing, 1)), False)
        for called, thing in anything(but=["zero", "one", "two"]):
            with self.subTest(called):
                self.assertIs(is_step(("sew", 1, thing)), False)


class Kind(unittest.TestCase):
    def test_each_work(self):
        for work, kind in KINDS:
            with self.subTest(work):
                self.assertEqual(kind_of(work), kind)

    def test_no_work(self):
        for word in ["", "hand", "Press", "press ", " sew", "sewn", "se", "calf", "style", "rest"]:
            with self.subTest(word):
                self.assertIsNone(kind_of(word))

    def test_by_name(self):
        self.assertEqual(kind_of(work="press"), "press")

    def test_of_anything(self):
        for called, thing in anything(but=["a work"]):
            with self.subTest(called):
                self.assertIsNone(kind_of(thing))


class Number(unittest.TestCase):
    def test_told(self):
        for number in [0, 1, 9, 10, 99, 100, 12345, 99999, 100000, 10 ** 6, 1234567, 9999998, 9999999]:
            with self.subTest(number):
                told = number_of(str(number))
                self.assertEqual(told, number)
                self.assertIs(type(told), int)

    def test_each_figure(self):
        for figure in "0123456789":
            self.assertEqual(number_of(figure), int(figure))
            self.assertEqual(number_of("1" + figure), 10 + int(figure))

    def test_beyond(self):
        for word in ["10000000", "99999999", "1" * 5000]:
            self.assertIsNone(number_of(word))

    def test_a_0_ahead(self):
        for word in ["00", "01", "007", "0000000", "0000001", "00000001"]:
            with self.subTest(word):
                self.assertIsNone(number_of(word))

    def test_no_figures(self):
        for word in ["", " ", "-1", "-0", "+1", "1 ", " 1", "1\n", "\n", "1_0", "1.0", "1,0", "1e3", "0x1", "a", "1a",
                     "a1", "seven"]:
            with self.subTest(word):
                self.assertIsNone(number_of(word))

    def test_each_sign_that_is_no_figure(self):
        for code in [10] + list(range(32, 48)) + list(range(58, 127)):
            with self.subTest(code):
                self.assertIsNone(number_of(chr(code)))
                self.assertIsNone(number_of("1" + chr(code) + "1"))

    def test_by_name(self):
        self.assertEqual(number_of(word="42"), 42)

    def test_of_anything(self):
        for called, thing in anything(but=["a figure"]):
            with self.subTest(called):
                self.assertIsNone(number_of(thing))


class Words(unittest.TestCase):
    def test_told(self):
        for row, words in [("calf", ["calf"]), ("sew 1 0", ["sew", "1", "0"]), ("a b", ["a", "b"]),
                           ("7 2 16 28", ["7", "2", "16", "28"]), ("!? ~", ["!?", "~"])]:
            with self.subTest(row):
                self.assertEqual(words_of(row), words)
                self.assertIs(type(words_of(row)), list)

    def test_blanks(self):
        for row in ["", " ", "  ", " a", "a ", " a ", "a  b", "a b ", " a b", "a b  c", "a   b", "  a", "a  "]:
            with self.subTest(row):
                self.assertIsNone(words_of(row))

    def test_a_line_end_is_a_sign_of_a_word(self):
        for row, words in [("\n", ["\n"]), ("a\nb c", ["a\nb", "c"]), ("a \n", ["a", "\n"]), ("a\n b", ["a\n", "b"])]:
            with self.subTest(repr(row)):
                self.assertEqual(words_of(row), words)

    def test_many_words(self):
        self.assertEqual(words_of(" ".join(["a"] * 10000)), ["a"] * 10000)
        self.assertIsNone(words_of("a " * 10000))

    def test_the_list_is_the_askers_own(self):
        row = "sew 1 0"
        words_of(row).append("more")
        self.assertEqual(words_of(row), ["sew", "1", "0"])

    def test_by_name(self):
        self.assertEqual(words_of(row="a b"), ["a", "b"])

    def test_of_anything(self):
        texts = ["a name", "a work", "a kind", "a figure", "a long text", "many figures", "rows"]
        for called, thing in anything(but=texts):
            with self.subTest(called):
                self.assertIsNone(words_of(thing))


if __name__ == "__main__":
    unittest.main()
