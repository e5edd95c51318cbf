"""read_chart: charts as text (points 15 and 16)."""

import random
import unittest

from grammar import text_fault, words_of
from heldloops.charts import fabric_of
from heldloops.errors import KnitError, TextFault
from heldloops.texts import read_chart, write_chart
from samples import EXAMPLE, EXAMPLE_FABRIC, random_charts

EXAMPLE_TEXT = "right: 3 tuck a\nleft: knit a, 2 purl a\nmove: 1 left\nright: join 2 left knit b, pass"


def work(direction, *commands):
    return ("work", direction, list(commands))


def move(*exchanges):
    return ("move", list(exchanges))


class ReadTest(unittest.TestCase):

    def reads(self, text, *lines):
        self.assertEqual(read_chart(text), list(lines), text)

    def test_example(self):
        self.assertEqual(read_chart(EXAMPLE_TEXT), EXAMPLE)
        self.assertEqual(fabric_of(read_chart(EXAMPLE_TEXT)), EXAMPLE_FABRIC)

    def test_empty_text(self):
        self.assertEqual(read_chart(""), [])

    def test_lines_without_commands_and_exchanges(self):
        self.reads("right:", work("right"))
        self.reads("left:", work("left"))
        self.reads("move:", move())
        self.reads("move:\nright:\nleft:\nmove:", move(), work("right"), work("left"), move())

    def test_each_command(self):
        for direction in ("right", "left"):
            self.reads(f"{direction}: knit a", work(direction, ("knit", "a")))
            self.reads(f"{direction}: purl bc", work(direction, ("purl", "bc")))
            self.reads(f"{direction}: tuck a", work(direction, ("tuck", "a")))
            self.reads(f"{direction}: pass", work(direction, ("pass",)))
            self.reads(f"{direction}: drop", work(direction, ("drop",)))
            for lean in ("left", "right"):
                for side in ("knit", "purl"):
                    self.reads(f"{direction}: join 2 {lean} {side} a", work(direction, ("join", 2, lean, side, "a")))

    def test_several_commands(self):
        text = "left: knit a, drop, join 4 right purl z, pass, tuck a, purl b"
        self.reads(text, work("left", ("knit", "a"), ("drop",), ("join", 4, "right", "purl", "z"), ("pass",),
                              ("tuck", "a"), ("purl", "b")))

    def test_exchanges(self):
        self.reads("move: 0 left", move((0, "left")))
        self.reads("move: 12 right, 0 left, 12 right", move((12, "right"), (0, "left"), (12, "right")))

    def test_runs(self):
        for text in ("right: 3 knit a", "right: 1 knit a, 2 knit a", "right: knit a, knit a, knit a",
                     "right: knit a, 1 knit a, 1 knit a"):
            self.reads(text, work("right", *[("knit", "a")] * 3))
        self.reads("left: 2 join 3 left purl b, 2 drop, 4 pass, 2 tuck c, 3 purl d", work(
            "left", *[("join", 3, "left", "purl", "b")] * 2, *[("drop",)] * 2, *[("pass",)] * 4, *[("tuck", "c")] * 2,
            *[("purl", "d")] * 3))

    def test_numbers_in_front(self):
        for many in (1, 2, 9, 10, 99, 100, 199, 200):
            for command, parts in (("knit a", ("knit", "a")), ("pass", ("pass",)), ("drop", ("drop",))):
                self.reads(f"right: {many} {command}", work("right", *[parts] * many))
        self.reads("right: 200 tuck a, 200 tuck a, 1 tuck a", work("right", *[("tuck", "a")] * 401))

    def test_numbers_of_joins_and_exchanges(self):
        for number in (0, 1, 2, 4, 5, 9, 10, 99, 100, 200, 201, 998, 999):
            self.reads(f"right: join {number} left knit a", work("right", ("join", number, "left", "knit", "a")))
            self.reads(f"right: 2 join {number} left knit a", work("right", *[("join", number, "left", "knit", "a")] * 2))
            self.reads(f"move: {number} left", move((number, "left")))

    def test_yarns(self):
        for yarn in ("a", "z", "abcdefgh", "zzzzzzzz", "knit", "purl", "tuck", "join", "pass", "drop", "left", "right",
                     "move"):
            self.reads(f"right: knit {yarn}, tuck {yarn}", work("right", ("knit", yarn), ("tuck", yarn)))
            self.reads(f"right: join 2 left knit {yarn}", work("right", ("join", 2, "left", "knit", yarn)))
        for many in range(1, 9):
            self.reads("left: purl " + "q" * many, work("left", ("purl", "q" * many)))

    def test_words_that_stand_together(self):
        self.reads("right:2knit a,3purl b", work("right", *[("knit", "a")] * 2, *[("purl", "b")] * 3))
        self.reads("left:join2left knit a,pass,2drop", work(
            "left", ("join", 2, "left", "knit", "a"), ("pass",), ("drop",), ("drop",)))
        self.reads("left:12join999right purl b", work("left", *[("join", 999, "right", "purl", "b")] * 12))
        self.reads("move:1left,0right", move((1, "left"), (0, "right")))

    def test_spaces(self):
        self.reads("  right   :   2  knit   a  ,  pass  ", work("right", ("knit", "a"), ("knit", "a"), ("pass",)))
        self.reads(" move :1  left ,0 right ", move((1, "left"), (0, "right")))
        self.reads("move: \n left:", move(), work("left"))
        self.reads("right:" + " " * 500 + "drop" + " " * 500, work("right", ("drop",)))

    def test_wrong_charts_are_read(self):
        text = "right: knit a\nmove: 7 left\nleft: join 9 left knit a, join 0 right purl b, drop"
        self.reads(text, work("right", ("knit", "a")), move((7, "left")), work(
            "left", ("join", 9, "left", "knit", "a"), ("join", 0, "right", "purl", "b"), ("drop",)))

    def test_kinds_of_values(self):
        chart = read_chart(EXAMPLE_TEXT)
        self.assertIs(type(chart), list)
        for line in chart:
            self.assertIs(type(line), tuple)
            self.assertIs(type(line[-1]), list)
            self.assertEqual({type(item) for item in line[-1]}, {tuple})
        self.assertIs(type(chart[2][1][0][0]), int)
        self.assertIs(type(chart[3][2][0][1]), int)

    def test_random_charts(self):
        for chart in random_charts(21, 200):
            self.assertEqual(read_chart(write_chart(chart)), chart)


class FaultTest(unittest.TestCase):

    def fault(self, text, line, word):
        with self.assertRaises(TextFault, msg=text) as caught:
            read_chart(text)
        self.assertEqual((caught.exception.line, caught.exception.word), (line, word), text)

    def test_first_word(self):
        for text in ("knit a", "up: pass", ": pass", ", right:", "3 right:", "rights: pass", "rightleft:", "r ight:",
                     "righ", "Right:", "RIGHT:", "-", "right2:x"[5:]):
            self.fault(text, 0, 0)

    def test_colon(self):
        for text in ("right knit a", "right, knit a", "move 1 left", "left left:", "move; 1 left", "right 3 pass"):
            self.fault(text, 0, 1)
        for text in ("right", "left", "move", "  move  "):
            self.fault(text, 0, 1)
        self.fault("right:: pass", 0, 2)

    def test_lines_that_end_too_early(self):
        ends = [("right: knit", 3), ("right: purl", 3), ("right: tuck", 3), ("right: 2", 3), ("right: 2 knit", 4),
                ("left: join", 3), ("left: join 2", 4), ("left: join 2 left", 5), ("left: join 2 left knit", 6),
                ("move: 1", 3), ("move: 1 left, 2", 6), ("right: pass, knit", 5)]
        for text, word in ends:
            self.fault(text, 0, word)
            self.fault(text + "   ", 0, word)
            self.fault("move:\n" + text + "\nright:", 1, word)

    def test_commas(self):
        for text, word in (("right: pass,", 4), ("move: 1 left,", 5), ("right: knit a, ", 5), ("right: pass,,pass", 4),
                           ("move: 1 left, , 2 left", 5), ("right: , pass", 2), ("move: ,", 2), ("left:,", 2),
                           ("right: pass pass", 3), ("move: 1 left 2 left", 4), ("right: knit a b", 4),
                           ("right: pass; pass", 3), ("right: join 2 left knit a knit a", 7)):
            self.fault(text, 0, word)

    def test_words_that_are_no_commands(self):
        for text in ("right: knot a", "right: a", "right: right", "right: left", "right: move", "right: 1 left",
                     "right: join2", "right: KNIT a", "right: k nit a", "right: knita", "right: -1 pass"):
            self.assertIsNotNone(text_fault(text))
            self.fault(text, *text_fault(text))
        self.fault("right: knita", 0, 2)
        self.fault("right: knit a, purla", 0, 5)
        self.fault("right: 2 left", 0, 3)
        self.fault("right: 2 3 pass", 0, 3)
        self.fault("right: 2, pass", 0, 3)
        self.fault("right: pass a", 0, 3)
        self.fault("right: drop 2", 0, 3)

    def test_exchanges(self):
        self.fault("move: left", 0, 2)
        self.fault("move: pass", 0, 2)
        self.fault("move: 2 knit a", 0, 3)
        self.fault("move: 2 up", 0, 3)
        self.fault("move: 2, left", 0, 3)
        self.fault("move: -1 left", 0, 2)
        self.fault("move: 1 1 left", 0, 3)
        self.fault("move: 1left,right", 0, 5)

    def test_joins(self):
        self.fault("right: join left knit a", 0, 3)
        self.fault("right: join 2 knit a", 0, 4)
        self.fault("right: join 2 left a", 0, 5)
        self.fault("right: join 2 left tuck a", 0, 5)
        self.fault("right: join 2 left left a", 0, 5)
        self.fault("right: join 2 left knit 2", 0, 6)
        self.fault("right: join 2 left knit,", 0, 6)
        self.fault("right: join 2 left knit a 2", 0, 7)

    def test_yarns(self):
        for many in range(9, 41):
            self.fault("right: pass, knit " + "a" * many, 0, 5)
            self.fault("right: join 2 left knit " + "a" * many, 0, 6)
        for word in ("2", "A", ",", ":", "_", "-a", "Ab"):
            self.fault(f"right: tuck {word}", 0, 3)
        self.fault("right: knit aB", 0, 4)
        self.fault("right: knit a2", 0, 4)
        self.fault("right: knit " + "a" * 10000, 0, 3)

    def test_numbers_in_front(self):
        for number in ("0", "00", "01", "001", "0001", "010", "201", "202", "999", "1000", "2000", "0200", "200" * 13,
                       "1" * 5000):
            for command in ("knit a", "pass", "join 2 left knit a", "", "left", ", pass"):
                self.fault(f"right: {number} {command}", 0, 2)
        self.fault("right: pass,0drop", 0, 4)

    def test_other_numbers(self):
        for number in ("00", "01", "000", "001", "010", "0001", "1000", "9999", "99999", "9" * 40, "0" * 40, "1" * 5000):
            self.fault(f"right: join {number} left knit a", 0, 3)
            self.fault(f"move: 1 left, {number} left", 0, 5)
            self.fault(f"move: {number}", 0, 2)

    def test_other_signs(self):
        signs = [chr(k) for k in range(32, 127) if not chr(k).isalnum() and chr(k) not in " ,:%"]
        for sign in signs + list("ABCXYZ") + ["\t", "\r", "%", "\xe4", "\u0663", "\x00", "\u2028", "\x0b", "\x0c", "\x85"]:
            for text, word in ((sign, 0), (f"{sign}right:", 0), (f"right{sign}:", 1), (f"right:{sign}", 2),
                               (f"right: knit{sign}a", 3), (f"right: knit a{sign}", 4), (f"right: 2{sign}pass", 3),
                               (f"move: {sign}1 left", 2), (f"move: 1{sign}left", 3), (f"move: 1 left{sign}", 4)):
                self.fault(text, 0, word)

    def test_lines_without_words(self):
        self.fault(" ", 0, 0)
        self.fault("     ", 0, 0)
        self.fault("\n", 0, 0)
        self.fault("\nright:", 0, 0)
        self.fault("   \nright:", 0, 0)
        self.fault("right:\n\nleft:", 1, 0)
        self.fault("right:\n  \nleft:", 1, 0)
        self.fault("right:\nleft:\n", 2, 0)
        self.fault("right:\nleft:\n ", 2, 0)

    def test_the_first_wrong_line_counts(self):
        self.fault("right: pass\nleft: 2\nmove: left", 1, 3)
        self.fault("move: left\nleft: 2", 0, 2)
        self.fault("move:\nmove: 1 left left\n\nright", 1, 4)

    def test_the_error_is_of_the_program(self):
        self.assertRaises(KnitError, read_chart, "right")


class RandomTextTest(unittest.TestCase):
    """Texts with mistakes, against the patterns of the grammar."""

    def check(self, text):
        expected = text_fault(text)
        try:
            read_chart(text)
            found = None
        except TextFault as fault:
            found = (fault.line, fault.word)
        self.assertEqual(found, expected, text)

    def test_one_word_is_changed(self):
        source = random.Random(22)
        for chart in random_charts(23, 150):
            rows = write_chart(chart).split("\n")[:3]
            at = source.randrange(len(rows))
            words = words_of(rows[at])
            for _ in range(6):
                self.check("\n".join(rows[:at] + [" ".join(changed(source, words))] + rows[at + 1:]))

    def test_two_lines_are_changed(self):
        source = random.Random(24)
        for chart in random_charts(25, 100):
            rows = write_chart(chart).split("\n")
            for at in source.sample(range(len(rows)), min(2, len(rows))):
                rows[at] = " ".join(changed(source, words_of(rows[at])))
            self.check("\n".join(rows))

    def test_one_sign_is_changed(self):
        source = random.Random(26)
        signs = [chr(k) for k in range(32, 127)] + ["\n"]
        for chart in random_charts(27, 150):
            text = write_chart(chart[:2])
            at = source.randrange(len(text))
            for put in (source.choice(signs), source.choice("a1 ,"), ""):
                self.check(text[:at] + put + text[at + 1:])
                self.check(text[:at] + put + text[at:])

    def test_words_at_random(self):
        source = random.Random(28)
        for _ in range(3000):
            first = source.choice([[], ["right", ":"], ["left", ":"], ["move", ":"]])
            self.check(" ".join(first + [source.choice(WORDS) for _ in range(source.randint(0, 7))]))


WORDS = ["right", "left", "move", "knit", "purl", "tuck", "join", "pass", "drop", ",", ":", "a", "0", "1", "2", "200",
         "201", "999", "1000", "007", "abcdefgh", "abcdefghi"]


def changed(source, words):
    """The words with one taken out, doubled, exchanged with its neighbour, put in or replaced."""
    at = source.randrange(len(words))
    kind = source.randrange(5)
    if kind == 0:
        return words[:at] + words[at + 1:]
    if kind == 1:
        return words[:at] + [words[at]] + words[at:]
    if kind == 2:
        return words[:at] + words[at:at + 2][::-1] + words[at + 2:]
    return words[:at] + [source.choice(WORDS)] + words[at + (kind == 4):]


if __name__ == "__main__":
    unittest.main()
