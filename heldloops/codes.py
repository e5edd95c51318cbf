"""Code of the machine as text, and the passes of the carriage that it costs."""

from heldloops.errors import CodeFault
from heldloops.words import is_number, is_yarn, spaced

PARTS = {
    "rack": ("rack",),
    "xfer": ("bed", "needle"),
    "knit": ("bed", "needle", "yarn"),
    "tuck": ("bed", "needle", "yarn"),
    "drop": ("bed", "needle"),
}
MOST_DIGITS = 6


def read_code(text):
    """The code that the text tells. Raises CodeFault."""
    if text == "":
        return []
    return [read_instruction(line, row) for line, row in enumerate(text.split("\n"))]


def read_instruction(line, row):
    """The instruction of one line."""
    word, *parts = row.split(" ")
    if word not in PARTS or len(parts) != len(PARTS[word]):
        raise CodeFault(line)
    for kind, part in zip(PARTS[word], parts):
        if not is_part(kind, part):
            raise CodeFault(line)
    values = [int(part) if kind in ("rack", "needle") else part for kind, part in zip(PARTS[word], parts)]
    return (word, *values)


def is_part(kind, part):
    """Whether the text is a part of this kind, as it is written."""
    if kind == "bed":
        return part in ("front", "back")
    if kind == "yarn":
        return is_yarn(part)
    if kind == "rack" and part.startswith("-"):
        return is_number(part[1:], MOST_DIGITS) and part != "-0"
    return is_number(part, MOST_DIGITS)


def write_code(code):
    """The text of the code."""
    return "\n".join([spaced(instruction) for instruction in code])


def cost(code):
    """The number of passes of the carriage."""
    passes = 0
    last_kind, last_needle, way = "", 0, 0
    for instruction in code:
        kind = kind_of_pass(instruction)
        needle = 0 if kind == "rack" else instruction[2]
        step = way_between(last_needle, needle)
        if kind == "rack" or kind != last_kind or step == 0 or step == -way:
            passes += 1
            step = 0
        last_kind, last_needle, way = kind, needle, step
    return passes


def kind_of_pass(instruction):
    """A word that is equal for instructions that one pass may do."""
    if instruction[0] in ("knit", "tuck"):
        return "make"
    return "rack" if instruction[0] == "rack" else spaced(instruction[:2])


def way_between(needle, other):
    """1 if the other needle lies to the right, -1 if it lies to the left, 0 if it has the same number."""
    if needle == other:
        return 0
    return 1 if other > needle else -1
