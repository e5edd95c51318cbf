"""tidy: the same fabric without idle lines (point 31)."""

import random
import unittest

from heldloops.tidying import tidy
from samples import EXAMPLE, random_charts, random_way, slow_fabric

PASS = ("pass",)


def divided(chart, source):
    """The chart with lines of one command or exchange each, in the order in which they are done."""
    lines = []
    for line in chart:
        if line[0] == "move":
            lines += [("move", [exchange]) for exchange in line[1]]
            continue
        commands, many = line[2], {"tuck": 0}
        takes = [command[1] if command[0] == "join" else many.get(command[0], 1) for command in commands]
        left = [0 if command[0] == "drop" else 1 for command in commands]
        order = list(range(len(commands)))
        for k in order if line[1] == "right" else order[::-1]:
            before, behind = (left, takes) if line[1] == "right" else (takes, left)
            passes = [PASS] * sum(before[:k]), [PASS] * sum(behind[k + 1:])
            lines.append(("work", random_way(source), passes[0] + [commands[k]] + passes[1]))
    return lines


def with_idle_lines(chart, source):
    """The chart with idle lines and empty moves between its lines, and with some moves divided."""
    width, lines = 0, []
    for line in chart + [("move", [])]:
        for _ in range(source.randint(0, 3)):
            lines.append(source.choice([("move", []), ("work", random_way(source), [PASS] * width)]))
        if line[0] == "move":
            at = source.randint(0, len(line[1]))
            lines += [("move", line[1][:at]), ("work", "left", [PASS] * width), ("move", line[1][at:])]
        else:
            width = sum(command[0] != "drop" for command in line[2])
            lines.append(line)
    return lines


class TidyTest(unittest.TestCase):

    def check(self, chart):
        tidied = tidy(chart)
        self.assertEqual(slow_fabric(tidied), slow_fabric(chart))
        self.assertLessEqual(len(tidied), len(chart))
        for line in tidied:
            if line[0] == "move":
                self.assertNotEqual(line[1], [])
            else:
                self.assertTrue(any(command != PASS for command in line[2]))
        for line, after in zip(tidied, tidied[1:]):
            self.assertNotEqual((line[0], after[0]), ("move", "move"))
        self.assertEqual(tidy(tidied), tidied)
        return tidied

    def test_nothing(self):
        for chart in ([], [("move", [])], [("work", "left", [])], [("work", "left", []), ("move", [])] * 3):
            self.assertEqual(self.check(chart), [])

    def test_idle_lines_alone(self):
        tucks = ("work", "right", [("tuck", "a")] * 3)
        idle = [("work", "left", [PASS] * 3), ("move", []), ("work", "right", [PASS] * 3)]
        self.assertEqual(self.check([tucks] + idle * 4), [tucks])

    def test_tidied_charts_stay(self):
        self.assertEqual(self.check(EXAMPLE), EXAMPLE)
        dropped = [EXAMPLE[0], ("work", "left", [("drop",)] * 3), EXAMPLE[0], ("work", "left", [PASS, ("drop",), PASS])]
        self.assertEqual(self.check(dropped), dropped)

    def test_moves_one_behind_the_other(self):
        tucks = ("work", "right", [("tuck", "a")] * 3)
        idle = ("work", "left", [PASS] * 3)
        moves = [("move", [(0, "left")]), ("move", [(1, "right"), (1, "left")]), ("move", [(0, "left")])]
        one = ("move", [(0, "left"), (1, "right"), (1, "left"), (0, "left")])
        for chart in (moves, [moves[0], ("move", []), moves[1], idle, moves[2]], [moves[0], idle, moves[1], idle, moves[2]]):
            self.assertEqual(self.check([tucks] + chart), [tucks, one])
        line = ("work", "right", [("knit", "a"), PASS, PASS])
        self.assertEqual(self.check([tucks, moves[0], line, moves[0], idle, moves[2]]),
                         [tucks, moves[0], line, ("move", [(0, "left")] * 2)])

    def test_moves_stay_as_they_were_passed(self):
        chart = [("work", "right", [("tuck", "a")] * 2)] + [("move", [(0, "left")]) for _ in range(3)]
        tidy(chart)
        self.assertEqual(chart[1:], [("move", [(0, "left")])] * 3)

    def test_divided_charts(self):
        source = random.Random(101)
        for chart in random_charts(101, 200) + [EXAMPLE]:
            lines = divided(chart, source)
            self.assertEqual(slow_fabric(lines), slow_fabric(chart))
            self.check(lines)

    def test_charts_with_idle_lines(self):
        source = random.Random(102)
        for chart in random_charts(102, 200) + [EXAMPLE]:
            lines = with_idle_lines(chart, source)
            self.assertEqual(slow_fabric(lines), slow_fabric(chart))
            self.assertEqual(self.check(lines), tidy(chart))
            self.check(with_idle_lines(divided(chart, source), source))

    def test_rows_that_begin_anew(self):
        begin = ("work", "right", [("tuck", "a")] * 2)
        end = ("work", "right", [("drop",)] * 2)
        empty = ("work", "left", [])
        self.assertEqual(self.check([empty, begin, end, empty, ("move", []), begin, end, empty]), [begin, end] * 2)


if __name__ == "__main__":
    unittest.main()
