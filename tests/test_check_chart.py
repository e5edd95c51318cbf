"""check_chart: the numbers of columns, and the first mistake (points 7, 8, 12)."""

import unittest

from heldloops.charts import check_chart
from heldloops.errors import KnitError, WrongChart
from samples import EXAMPLE, random_charts, slow_fabric

TUCK, KNIT, PURL, PASS, DROP = ("tuck", "a"), ("knit", "a"), ("purl", "b"), ("pass",), ("drop",)
HUGE = 10 ** 30


def right(*commands):
    return ("work", "right", list(commands))


def left(*commands):
    return ("work", "left", list(commands))


def move(*exchanges):
    return ("move", list(exchanges))


def join(many):
    return ("join", many, "left", "knit", "a")


THREE = right(TUCK, TUCK, TUCK)
THREE_BESIDE_ONE = right(TUCK, TUCK, PASS, TUCK)


class WidthsTest(unittest.TestCase):

    def test_example(self):
        self.assertEqual(check_chart(EXAMPLE), [0, 3, 3, 3, 2])

    def test_empty_chart(self):
        self.assertEqual(check_chart([]), [0])

    def test_lines_without_commands_and_moves_without_exchanges(self):
        self.assertEqual(check_chart([right(), left(), move(), right()]), [0, 0, 0, 0, 0])

    def test_move_without_exchanges_keeps_the_row(self):
        self.assertEqual(check_chart([right(TUCK), move(), THREE_BESIDE_ONE, move()]), [0, 1, 1, 4, 4])

    def test_each_command(self):
        for command, width in ((KNIT, 3), (PURL, 3), (PASS, 3), (DROP, 2)):
            for direction in (right, left):
                self.assertEqual(check_chart([THREE, direction(command, KNIT, PASS)]), [0, 3, width])

    def test_tucks_take_nothing(self):
        self.assertEqual(check_chart([left(TUCK), right(TUCK, PASS, TUCK), left(PASS, PASS, TUCK, PASS)]), [0, 1, 3, 4])

    def test_joins_of_two_to_four(self):
        for many in (2, 3, 4):
            self.assertEqual(check_chart([right(*[TUCK] * (many + 1)), left(PASS, join(many))]), [0, many + 1, 2])

    def test_row_dropped_and_begun_anew(self):
        self.assertEqual(check_chart([THREE, left(DROP, DROP, DROP), right(TUCK)]), [0, 3, 0, 1])

    def test_all_exchanges_that_there_are(self):
        self.assertEqual(check_chart([THREE, move((0, "left"), (1, "right"), (0, "right"))]), [0, 3, 3])

    def test_random_charts(self):
        for chart in random_charts(1, 100):
            expected = [len(slow_fabric(chart[:k])[2]) for k in range(len(chart) + 1)]
            self.assertEqual(check_chart(chart), expected)


class MistakesTest(unittest.TestCase):

    def wrong(self, chart, line, item):
        with self.assertRaises(WrongChart) as caught:
            check_chart(chart)
        self.assertEqual((caught.exception.line, caught.exception.item), (line, item))
        self.assertIs(type(caught.exception), WrongChart)
        self.assertIsInstance(caught.exception, KnitError)

    def test_command_takes_more_than_there_are_left(self):
        for command in (KNIT, PURL, PASS, DROP):
            self.wrong([right(command)], 0, 0)
            self.wrong([left(TUCK, command)], 0, 1)
            self.wrong([THREE, right(PASS, PASS, PASS, command)], 1, 3)

    def test_join_takes_more_than_there_are_left(self):
        for many in (2, 3, 4):
            self.wrong([right(join(many))], 0, 0)
            self.wrong([right(*[TUCK] * many), left(PASS, join(many))], 1, 1)
            self.wrong([right(*[TUCK] * (many - 1)), right(TUCK, join(many))], 1, 1)

    def test_join_of_a_wrong_number(self):
        for many in (0, 1, 5, 6, -1, -2, -HUGE, HUGE):
            self.wrong([right(*[TUCK] * 8), right(PASS, join(many))], 1, 1)
            self.wrong([right(join(many))], 0, 0)

    def test_join_of_no_column_though_all_are_taken(self):
        self.wrong([THREE, right(KNIT, KNIT, KNIT, join(0))], 1, 3)
        self.wrong([THREE, right(KNIT, KNIT, join(1))], 1, 2)

    def test_column_left_over(self):
        self.wrong([THREE, right()], 1, 0)
        self.wrong([THREE, left(KNIT, PASS)], 1, 2)
        self.wrong([right(TUCK), left(TUCK, TUCK)], 1, 2)
        self.wrong([right(*[TUCK] * 5), right(join(4))], 1, 1)

    def test_exchange_without_a_place(self):
        for column in (2, 3, 4, HUGE, -1, -2, -3, -HUGE):
            self.wrong([THREE, move((column, "left"))], 1, 0)
            self.wrong([THREE, move((0, "left"), (1, "left"), (column, "right"))], 1, 2)

    def test_exchange_in_a_row_of_one_column_or_none(self):
        for column in (-1, 0, 1):
            self.wrong([move((column, "left"))], 0, 0)
            self.wrong([right(TUCK), move((column, "right"))], 1, 0)

    def test_first_line_counts(self):
        self.wrong([THREE, right(KNIT), move((5, "left"))], 1, 1)
        self.wrong([THREE, move((1, "left"), (2, "left")), right(join(7))], 1, 1)
        self.wrong([right(TUCK, DROP), right(DROP)], 0, 1)

    def test_least_index_counts(self):
        self.wrong([THREE, right(join(5), join(1))], 1, 0)
        self.wrong([THREE, right(KNIT, join(4), join(0))], 1, 1)
        self.wrong([THREE, right(PASS, join(1))], 1, 1)
        self.wrong([THREE, move((0, "left"), (-1, "left"), (9, "left"))], 1, 1)

    def test_nothing_is_wrong_before_the_last_line(self):
        for chart in random_charts(2, 60):
            width = check_chart(chart)[-1]
            self.wrong(chart + [right(*[PASS] * width, PASS)], len(chart), width)
            self.wrong(chart + [right(TUCK, *[PASS] * width, DROP)], len(chart), width + 1)
            self.wrong(chart + [move((max(width - 1, 0), "left"))], len(chart), 0)
            if width > 0:
                self.wrong(chart + [left(*[PASS] * (width - 1))], len(chart), width - 1)


if __name__ == "__main__":
    unittest.main()
