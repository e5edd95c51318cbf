"""The errors of the program.

No error makes a message of its values: they may be numbers too long to be written out in decimal digits.
"""


class KnitError(ValueError):
    """The base of all errors of this program."""


class WrongChart(KnitError):
    """A chart that cannot be worked: its first wrong line, and the command or exchange of it."""

    def __init__(self, line, item):
        self.line = line
        self.item = item


class TextFault(KnitError):
    """A text that is no chart: its first wrong line, and the first word with which no line goes on."""

    def __init__(self, line, word):
        self.line = line
        self.word = word


class CodeFault(KnitError):
    """A text that is no code: its first wrong line."""

    def __init__(self, line):
        self.line = line


class TooWide(KnitError):
    """A chart with more columns than the machine has room for: the first line where this is so."""

    def __init__(self, line):
        self.line = line


class NoChart(KnitError):
    """Code with a fabric that no chart has: the instruction that makes it so, or the number of instructions."""

    def __init__(self, index):
        self.index = index


class MachineFault(KnitError):
    """An instruction that the machine refuses: the number of instructions that were done before it."""

    def __init__(self, index):
        self.index = index


class OutOfReach(MachineFault):
    """A rack beyond the reach."""


class OutOfBed(MachineFault):
    """A needle that there is not, or an xfer to one."""


class NeedleEmpty(MachineFault):
    """A knit on a needle that holds nothing."""


class NeedleFull(MachineFault):
    """A tuck on a needle that holds loops."""


class Facing(MachineFault):
    """A knit or tuck on a needle that faces a needle which holds loops."""
