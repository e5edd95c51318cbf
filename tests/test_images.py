"""mirror_chart, turn_chart, mirrored, turned: images of charts and of fabrics (points 6 and 13)."""

import unittest

from heldloops.charts import check_chart, fabric_of, mirror_chart, turn_chart
from heldloops.fabrics import mirrored, turned
from samples import EXAMPLE, EXAMPLE_FABRIC, random_charts


def a(number):
    return ("a", number)


class ChartImagesTest(unittest.TestCase):

    def test_mirror_of_the_example(self):
        self.assertEqual(mirror_chart(EXAMPLE), [
            ("work", "left", [("tuck", "a")] * 3),
            ("work", "right", [("purl", "a"), ("purl", "a"), ("knit", "a")]),
            ("move", [(0, "right")]),
            ("work", "left", [("pass",), ("join", 2, "right", "knit", "b")]),
        ])

    def test_example_from_the_back(self):
        self.assertEqual(turn_chart(EXAMPLE), [
            ("work", "left", [("tuck", "a")] * 3),
            ("work", "right", [("knit", "a"), ("knit", "a"), ("purl", "a")]),
            ("move", [(0, "left")]),
            ("work", "left", [("pass",), ("join", 2, "left", "purl", "b")]),
        ])

    def test_empty_chart_and_empty_lines(self):
        for image in (mirror_chart, turn_chart):
            self.assertEqual(image([]), [])
            self.assertEqual(image([("work", "left", []), ("move", [])]), [("work", "right", []), ("move", [])])

    def test_joins(self):
        rows = ("work", "right", [("tuck", "a")] * 3)
        for lean, other in (("left", "right"), ("right", "left")):
            for side, back in (("knit", "purl"), ("purl", "knit")):
                chart = [rows, ("work", "left", [("join", 3, lean, side, "b")])]
                self.assertEqual(mirror_chart(chart)[1], ("work", "right", [("join", 3, other, side, "b")]))
                self.assertEqual(turn_chart(chart)[1], ("work", "right", [("join", 3, lean, back, "b")]))

    def test_yarns_with_the_names_of_words_stay(self):
        for yarn in ("knit", "purl", "left", "right", "tuck", "join"):
            rows = ("work", "left", [("tuck", yarn)] * 4)
            chart = [rows, ("work", "left", [("join", 2, "left", "knit", yarn), ("knit", yarn), ("purl", yarn)])]
            mirror, back = mirror_chart(chart), turn_chart(chart)
            self.assertEqual(mirror[0], ("work", "right", rows[2]))
            self.assertEqual(back[0], ("work", "right", rows[2]))
            self.assertEqual(mirror[1][2], [("purl", yarn), ("knit", yarn), ("join", 2, "right", "knit", yarn)])
            self.assertEqual(back[1][2], [("knit", yarn), ("purl", yarn), ("join", 2, "left", "purl", yarn)])

    def test_passes_and_drops_stay(self):
        chart = [("work", "left", [("tuck", "a")] * 2), ("work", "left", [("pass",), ("drop",)])]
        for image in (mirror_chart, turn_chart):
            self.assertEqual(image(chart)[1], ("work", "right", [("drop",), ("pass",)]))

    def test_exchanges_of_rows_of_several_widths(self):
        chart = [
            ("work", "right", [("tuck", "a")] * 5),
            ("move", [(0, "left"), (3, "right"), (1, "left")]),
            ("work", "right", [("drop",), ("join", 2, "left", "knit", "a"), ("pass",), ("pass",)]),
            ("move", [(0, "left"), (1, "right")]),
            ("work", "right", [("tuck", "a"), ("tuck", "a"), ("pass",), ("pass",), ("pass",), ("tuck", "a")]),
            ("move", [(4, "right"), (0, "right")]),
            ("move", [(2, "left")]),
        ]
        mirror, back = mirror_chart(chart), turn_chart(chart)
        self.assertEqual(mirror[1], ("move", [(3, "right"), (0, "left"), (2, "right")]))
        self.assertEqual(mirror[3], ("move", [(1, "right"), (0, "left")]))
        self.assertEqual(mirror[5:], [("move", [(0, "left"), (4, "left")]), ("move", [(2, "right")])])
        self.assertEqual(back[1], ("move", [(3, "left"), (0, "right"), (2, "left")]))
        self.assertEqual(back[3], ("move", [(1, "left"), (0, "right")]))
        self.assertEqual(back[5:], [("move", [(0, "right"), (4, "right")]), ("move", [(2, "left")])])

    def test_each_done_twice_gives_the_chart_back(self):
        for chart in random_charts(4, 200):
            self.assertEqual(mirror_chart(mirror_chart(chart)), chart)
            self.assertEqual(turn_chart(turn_chart(chart)), chart)

    def test_both_in_either_order_are_alike(self):
        for chart in random_charts(5, 200):
            self.assertEqual(turn_chart(mirror_chart(chart)), mirror_chart(turn_chart(chart)))

    def test_images_have_the_widths_of_the_chart(self):
        for chart in random_charts(6, 100):
            self.assertEqual(check_chart(mirror_chart(chart)), check_chart(chart))
            self.assertEqual(check_chart(turn_chart(chart)), check_chart(chart))

    def test_fabrics_of_the_images(self):
        for chart in random_charts(7, 300):
            self.assertEqual(fabric_of(mirror_chart(chart)), mirrored(fabric_of(chart)))
            self.assertEqual(fabric_of(turn_chart(chart)), turned(fabric_of(chart)))


class FabricImagesTest(unittest.TestCase):

    # Columns of several loops come from the machine only, and joins of a depth of neither lean, too.
    FABRIC = (
        [
            (a(0), "tuck", [], []),
            (a(1), "tuck", [], []),
            (a(2), "knit", [a(0)], [a(0)]),
            (a(3), "purl", [("b", 0), a(1), a(2)], [a(1), a(2), ("b", 0)]),
            (("b", 0), "tuck", [], []),
            (("b", 1), "tuck", [], []),
            (("b", 2), "tuck", [], []),
        ],
        [(a(0), a(1), [a(0), a(0), a(1)]), (a(3), ("b", 1), [("b", 1)])],
        [[a(3), ("b", 1)], [("b", 2)]],
        [],
    )

    def test_mirrored(self):
        loops, crossings, resting, dropped = mirrored(self.FABRIC)
        self.assertEqual(loops[3], (a(3), "purl", [("b", 0), a(1), a(2)], [("b", 0), a(2), a(1)]))
        self.assertEqual(loops[:3] + loops[4:], self.FABRIC[0][:3] + self.FABRIC[0][4:])
        self.assertEqual(crossings, self.FABRIC[1])
        self.assertEqual(resting, [[("b", 2)], [a(3), ("b", 1)]])
        self.assertEqual(dropped, [])

    def test_turned(self):
        loops, crossings, resting, dropped = turned(self.FABRIC)
        self.assertEqual(loops[2], (a(2), "purl", [a(0)], [a(0)]))
        self.assertEqual(loops[3], (a(3), "knit", [a(2), a(1), ("b", 0)], [("b", 0), a(2), a(1)]))
        self.assertEqual(loops[:2] + loops[4:], self.FABRIC[0][:2] + self.FABRIC[0][4:])
        self.assertEqual(crossings, [(a(0), a(1), [a(1), a(1), a(0)]), (a(3), ("b", 1), [a(3)])])
        self.assertEqual(resting, [[("b", 2)], [("b", 1), a(3)]])
        self.assertEqual(dropped, [])

    def test_example(self):
        loops, crossings, resting, dropped = EXAMPLE_FABRIC
        place = [a(3), a(5)]
        image = (loops[:6] + [(("b", 0), "knit", [a(5), a(3)], place)], crossings, resting[::-1], dropped)
        self.assertEqual(mirrored(EXAMPLE_FABRIC), image)
        expected = loops[:3] + [
            (a(3), "knit", [a(2)], [a(2)]),
            (a(4), "knit", [a(1)], [a(1)]),
            (a(5), "purl", [a(0)], [a(0)]),
            (("b", 0), "purl", place, place),
        ]
        self.assertEqual(turned(EXAMPLE_FABRIC), (expected, [(a(3), a(4), [a(3)])], resting[::-1], dropped))

    def test_dropped_loops_stay_in_order(self):
        fabric = ([(a(0), "tuck", [], []), (a(1), "tuck", [], [])], [], [], [a(0), a(1)])
        self.assertEqual(mirrored(fabric), fabric)
        self.assertEqual(turned(fabric), fabric)

    def test_empty_fabric(self):
        self.assertEqual(mirrored(([], [], [], [])), ([], [], [], []))
        self.assertEqual(turned(([], [], [], [])), ([], [], [], []))

    def test_kinds_of_values(self):
        for image in (mirrored(self.FABRIC), turned(self.FABRIC)):
            self.assertIs(type(image), tuple)
            self.assertEqual([type(part) for part in image], [list] * 4)
            self.assertEqual({type(loop) for loop in image[0]} | {type(pair) for pair in image[1]}, {tuple})
            self.assertEqual({type(part) for loop in image[0] for part in loop[2:]}, {list})
            self.assertEqual({type(crossing[2]) for crossing in image[1]}, {list})

    def test_each_done_twice_gives_the_fabric_back(self):
        for fabric in [self.FABRIC, EXAMPLE_FABRIC] + [fabric_of(chart) for chart in random_charts(8, 100)]:
            self.assertEqual(mirrored(mirrored(fabric)), fabric)
            self.assertEqual(turned(turned(fabric)), fabric)
            self.assertEqual(turned(mirrored(fabric)), mirrored(turned(fabric)))


if __name__ == "__main__":
    unittest.main()
