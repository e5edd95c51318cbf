"""The errors: their fields, and which is a kind of which."""

import unittest

from heldloops.errors import CodeFault, KnitError, MachineFault, NoChart, TextFault, TooWide, WrongChart
from heldloops.errors import Facing, NeedleEmpty, NeedleFull, OutOfBed, OutOfReach

FIELDS = {
    KnitError: (),
    WrongChart: ("line", "item"),
    TextFault: ("line", "word"),
    CodeFault: ("line",),
    TooWide: ("line",),
    NoChart: ("index",),
    MachineFault: ("index",),
    OutOfReach: ("index",),
    OutOfBed: ("index",),
    NeedleEmpty: ("index",),
    NeedleFull: ("index",),
    Facing: ("index",),
}
FAULTS = (OutOfReach, OutOfBed, NeedleEmpty, NeedleFull, Facing)
HUGE = 10 ** 6000


class ErrorsTest(unittest.TestCase):

    def check_fields(self, values):
        for kind, fields in FIELDS.items():
            with self.subTest(kind=kind.__name__):
                error = kind(*values[:len(fields)])
                self.assertEqual([getattr(error, field) for field in fields], list(values[:len(fields)]))

    def test_fields_in_the_order_told(self):
        self.check_fields((3, 8))

    def test_zero_and_values_below_zero(self):
        self.check_fields((0, -1))
        self.check_fields((-5, 0))

    def test_huge_values(self):
        self.check_fields((HUGE, HUGE + 1))
        self.check_fields((-HUGE, 2 ** 64))

    def test_no_other_fields(self):
        for kind, fields in FIELDS.items():
            self.assertEqual(sorted(vars(kind(*[1, 2][:len(fields)]))), sorted(fields))

    def test_number_of_values(self):
        for kind, fields in FIELDS.items():
            if fields:
                for many in range(4):
                    if many != len(fields):
                        self.assertRaises(TypeError, kind, *range(many))

    def test_bases(self):
        self.assertEqual(KnitError.__bases__, (ValueError,))
        for kind in (WrongChart, TextFault, CodeFault, TooWide, NoChart, MachineFault):
            self.assertEqual(kind.__bases__, (KnitError,))
        for kind in FAULTS:
            self.assertEqual(kind.__bases__, (MachineFault,))

    def test_which_is_a_kind_of_which(self):
        for kind in FIELDS:
            for other in FIELDS:
                expected = kind == other or other == KnitError or (other == MachineFault and kind in FAULTS)
                self.assertEqual(issubclass(kind, other), expected, (kind, other))

    def test_raised_and_caught(self):
        for kind, fields in FIELDS.items():
            for base in (kind, KnitError, ValueError):
                with self.assertRaises(base) as caught:
                    raise kind(*[HUGE, 7][:len(fields)])
                self.assertIs(type(caught.exception), kind)


if __name__ == "__main__":
    unittest.main()
