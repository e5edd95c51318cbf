"""write_chart: the written form of a chart (point 17)."""

import unittest

from heldloops.texts import read_chart, write_chart
from samples import EXAMPLE, random_charts
from test_read_chart import EXAMPLE_TEXT, move, work


class WriteTest(unittest.TestCase):

    def writes(self, lines, text):
        self.assertEqual(write_chart(lines), text)
        self.assertEqual(read_chart(text), lines)

    def test_example(self):
        self.writes(EXAMPLE, EXAMPLE_TEXT)

    def test_empty_chart(self):
        self.writes([], "")

    def test_lines_without_commands_and_exchanges(self):
        self.writes([work("right")], "right:")
        self.writes([work("left")], "left:")
        self.writes([move()], "move:")
        self.writes([move(), work("left"), move()], "move:\nleft:\nmove:")

    def test_each_command(self):
        commands = [("knit", "a"), ("purl", "bcdefghi"), ("tuck", "knit"), ("pass",), ("drop",),
                    ("join", 2, "left", "knit", "a"), ("join", 3, "right", "purl", "left")]
        text = "knit a, purl bcdefghi, tuck knit, pass, drop, join 2 left knit a, join 3 right purl left"
        for direction in ("right", "left"):
            self.writes([work(direction, *commands)], f"{direction}: {text}")
        for command, written in zip(commands, text.split(", ")):
            self.writes([work("left", command)], f"left: {written}")

    def test_exchanges(self):
        self.writes([move((0, "left"))], "move: 0 left")
        self.writes([move((0, "left"), (999, "right"), (10, "left"))], "move: 0 left, 999 right, 10 left")

    def test_equal_exchanges_are_written_each(self):
        self.writes([move((1, "left"), (1, "left"), (1, "left"))], "move: 1 left, 1 left, 1 left")

    def test_runs(self):
        for command, written in ((("knit", "a"), "knit a"), (("pass",), "pass"), (("drop",), "drop"),
                                 (("tuck", "b"), "tuck b"), (("join", 0, "left", "purl", "a"), "join 0 left purl a")):
            for many, numbers in ((1, [""]), (2, ["2 "]), (3, ["3 "]), (199, ["199 "]), (200, ["200 "]),
                                  (201, ["200 ", ""]), (202, ["200 ", "2 "]), (399, ["200 ", "199 "]),
                                  (400, ["200 "] * 2), (401, ["200 ", "200 ", ""]), (600, ["200 "] * 3),
                                  (633, ["200 ", "200 ", "200 ", "33 "])):
                text = ", ".join([number + written for number in numbers])
                self.writes([work("right", *[command] * many)], f"right: {text}")

    def test_runs_of_like_commands_are_apart(self):
        commands = [("knit", "a")] * 2 + [("purl", "a")] + [("knit", "a")] + [("knit", "b")] * 201 + [("pass",)] * 2
        self.writes([work("left", *commands)], "left: 2 knit a, purl a, knit a, 200 knit b, knit b, 2 pass")
        joins = [("join", 2, "left", "knit", "a"), ("join", 3, "left", "knit", "a"), ("join", 3, "right", "knit", "a"),
                 ("join", 3, "right", "purl", "a"), ("join", 3, "right", "purl", "b")]
        self.assertNotIn(": 2 ", write_chart([work("right", *joins)]))
        self.writes([work("right", *joins)], "right: " + ", ".join(["join 2 left knit a", "join 3 left knit a",
                    "join 3 right knit a", "join 3 right purl a", "join 3 right purl b"]))

    def test_runs_end_with_their_line(self):
        self.writes([work("right", ("pass",)), work("right", ("pass",))], "right: pass\nright: pass")

    def test_equal_commands_that_are_not_one_object(self):
        commands = [tuple(["knit", letters[:2]]) for letters in ("abc", "abd", "abe")]
        self.writes([work("right", *commands)], "right: 3 knit ab")

    def test_wrong_charts_are_written(self):
        chart = [work("right", ("join", 999, "left", "knit", "a"), ("join", 1, "left", "knit", "a")), move((500, "left"))]
        self.writes(chart, "right: join 999 left knit a, join 1 left knit a\nmove: 500 left")

    def test_random_charts(self):
        for chart in random_charts(31, 300):
            self.assertEqual(read_chart(write_chart(chart)), chart)
            for row in write_chart(chart).split("\n"):
                self.assertEqual(row, " ".join(row.split()))


if __name__ == "__main__":
    unittest.main()
