"""read_code and write_code: code as text (points 19, 20 and 24)."""

import random
import unittest

from grammar import code_fault
from heldloops.codes import read_code, write_code
from heldloops.errors import CodeFault, KnitError
from slow_machine import random_codes

CODE = [("rack", 0), ("rack", 12), ("rack", -3), ("xfer", "front", 0), ("xfer", "back", 10), ("knit", "front", 7, "a"),
        ("knit", "back", 999999, "abcdefgh"), ("tuck", "front", 123, "knit"), ("tuck", "back", 1, "rack"),
        ("drop", "front", 45678), ("drop", "back", 0)]

TEXT = """rack 0
rack 12
rack -3
xfer front 0
xfer back 10
knit front 7 a
knit back 999999 abcdefgh
tuck front 123 knit
tuck back 1 rack
drop front 45678
drop back 0"""


class WriteTest(unittest.TestCase):

    def test_each_instruction(self):
        self.assertEqual(write_code(CODE), TEXT)
        for instruction, row in zip(CODE, TEXT.split("\n")):
            self.assertEqual(write_code([instruction]), row)

    def test_empty_code(self):
        self.assertEqual(write_code([]), "")

    def test_racks(self):
        for rack in (1, -1, 9, -9, 10, -10, 999999, -999999):
            self.assertEqual(write_code([("rack", rack)]), "rack " + repr(rack))

    def test_written_code_is_read(self):
        codes = [code for code, _, _ in random_codes(51, 100, 30)]
        for code in codes:
            self.assertEqual(read_code(write_code(code)), code)

    def test_long_code(self):
        code = (CODE * 1000)[:10001]
        text = write_code(code)
        self.assertEqual(text.count("\n"), 10000)
        self.assertEqual(read_code(text), code)


class ReadTest(unittest.TestCase):

    def test_each_instruction(self):
        self.assertEqual(read_code(TEXT), CODE)
        for instruction, row in zip(CODE, TEXT.split("\n")):
            self.assertEqual(read_code(row), [instruction])

    def test_empty_text(self):
        self.assertEqual(read_code(""), [])

    def test_numbers(self):
        for number in (0, 1, 9, 10, 99, 100, 999, 1000, 9999, 10000, 99999, 100000, 999999):
            self.assertEqual(read_code(f"rack {number}"), [("rack", number)])
            self.assertEqual(read_code(f"drop back {number}"), [("drop", "back", number)])
            self.assertEqual(read_code(f"tuck back {number} a"), [("tuck", "back", number, "a")])
            if number:
                self.assertEqual(read_code(f"rack -{number}"), [("rack", -number)])

    def test_yarns(self):
        for yarn in ["z" * many for many in range(1, 9)] + ["front", "back", "knit", "abcdefgh", "stuvwxyz"]:
            self.assertEqual(read_code(f"knit front 3 {yarn}"), [("knit", "front", 3, yarn)])
            self.assertEqual(read_code(f"tuck front 3 {yarn}"), [("tuck", "front", 3, yarn)])

    def test_kinds_of_values(self):
        for instruction in read_code(TEXT):
            self.assertIs(type(instruction), tuple)
            self.assertEqual([type(part) for part in instruction], [
                int if part.__class__ is int else str for part in instruction])
        self.assertIs(type(read_code("rack 0")), list)


class FaultTest(unittest.TestCase):

    def fault(self, text, line=0):
        with self.assertRaises(CodeFault, msg=repr(text)) as caught:
            read_code(text)
        self.assertEqual(caught.exception.line, line, text)

    def wrong_row(self, row):
        """The row is wrong alone, first, in the middle and last."""
        self.fault(row)
        self.fault(row + "\nrack 1")
        self.fault("rack 1\ndrop back 3\n" + row + "\nrack 0", 2)
        self.fault(TEXT + "\n" + row, 11)

    def test_words_taken_out_doubled_or_replaced(self):
        for row in TEXT.split("\n"):
            words = row.split(" ")
            for k in range(len(words)):
                self.wrong_row(" ".join(words[:k] + words[k + 1:]))
                self.wrong_row(" ".join(words[:k] + [words[k]] + words[k:]))
                for word in ("", "x1", "kn-t", "FRONT", "middlemost", "-", "+1", "rack2", "1.5", "front,"):
                    self.wrong_row(" ".join(words[:k] + [word] + words[k + 1:]))
        for row in ("rack", "front 3", "xfer 3", "drop front", "knit front 3", "tuck 3 a", "rack front", "rack front 3",
                    "xfer front 3 a", "drop front 3 a", "knit 3 front a", "knit front a 3", "rack 1 2", "knit a front 3"):
            self.wrong_row(row)

    def test_spaces(self):
        for row in TEXT.split("\n"):
            self.wrong_row(row + " ")
            self.wrong_row(" " + row)
            self.wrong_row(row.replace(" ", "  ", 1))
            self.wrong_row(row.replace(" ", "\t", 1))
            self.wrong_row(row.replace(" ", "", 1))
            self.wrong_row(row + "\r")
            words = row.split(" ")
            self.wrong_row(" ".join(words[:-1]) + "  " + words[-1])

    def test_leading_zeros_and_signs(self):
        for number in ("00", "01", "007", "000001", "0000001", "+1", "+0", "-", "--1", "1-", "- 1", "1.0", "1e3", "0x1",
                       "1_0", "1,000", "\u0661", "\xb2", "", " "):
            self.wrong_row(f"rack {number}")
            self.wrong_row(f"xfer front {number}")
            self.wrong_row(f"knit back {number} a")
        for number in ("-0", "-00", "-01", "-007", "--0", "-+1"):
            self.wrong_row(f"rack {number}")

    def test_too_many_digits(self):
        for number in ("1000000", "9999999", "1" * 40, "1" * 5000, "0" * 7):
            for row in (f"rack {number}", f"rack -{number}", f"drop front {number}", f"tuck back {number} a"):
                self.wrong_row(row)

    def test_needles_below_0(self):
        for number in ("-0", "-1", "-12", "-999999"):
            for row in (f"xfer front {number}", f"xfer back {number}", f"knit front {number} a",
                        f"tuck back {number} a", f"drop back {number}"):
                self.wrong_row(row)

    def test_yarns(self):
        for yarn in ("", "abcdefghi", "a" * 40, "a1", "1a", "1", "A", "aB", "a-b", "a_b", "a,", "\xe4", "a b", "-"):
            self.wrong_row(f"knit front 3 {yarn}")
            self.wrong_row(f"tuck back 3 {yarn}")

    def test_empty_lines(self):
        self.fault("\n")
        self.fault("\n\n")
        self.fault(" ")
        self.fault("\nrack 1")
        self.fault("rack 1\n", 1)
        self.fault("rack 1\n\nrack 1", 1)
        self.fault("rack 1\nrack 1\n\n", 2)
        self.fault("rack 1\n \nrack 1", 1)
        self.fault(TEXT + "\n", 11)

    def test_other_line_ends(self):
        for sign in ("\r\n", "\r", "\x0b", "\x0c", "\x85", "\u2028", "\x1c"):
            self.fault(f"rack 1{sign}rack 2")
        self.fault("rack 0\nrack 1\r\nrack 2", 1)

    def test_the_first_wrong_line_counts(self):
        self.fault("rack 1\nrack 01\nrack 1\nrack", 1)
        self.fault("knit\n" * 5)
        self.fault("rack 1\n" * 1500 + "rack x\n" + "rack 1\n" * 700, 1500)

    def test_the_error_is_of_the_program(self):
        self.assertRaises(KnitError, read_code, "knit")

    def test_one_sign_is_changed(self):
        source = random.Random(52)
        signs = [chr(k) for k in range(32, 127)] + ["\n"]
        for _ in range(4000):
            text = "\n".join(source.sample(TEXT.split("\n"), 3))
            at = source.randrange(len(text) + 1)
            put = source.choice([source.choice(signs), source.choice("0123456789-a "), ""])
            changed = text[:at] + put + text[at + source.randint(0, 1):]
            if code_fault(changed) is None:
                self.assertEqual(write_code(read_code(changed)), changed)
            else:
                self.fault(changed, code_fault(changed))


if __name__ == "__main__":
    unittest.main()
