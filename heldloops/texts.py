"""Charts as text: reading and writing them."""

from heldloops.errors import TextFault
from heldloops.words import DIGITS, LETTERS, is_number, is_yarn, spaced

FIRST_WORDS = ("right", "left", "move")
COMMANDS = ("knit", "purl", "tuck", "pass", "drop", "join")
WAYS = ("left", "right")
SIDES = ("knit", "purl")
MOST_DIGITS = 3
MOST_TIMES = 200


def read_chart(text):
    """The chart that the text tells. Raises TextFault."""
    if text == "":
        return []
    return [read_line(LineReader(line, row)) for line, row in enumerate(text.split("\n"))]


def words_of(row):
    """The words of a row of text: runs of letters, runs of digits, and all other signs but spaces by themselves."""
    words = []
    start = 0
    for at, sign in enumerate(row):
        if at > start and not goes_on(row[start], sign):
            words.append(row[start:at])
            start = at
    words.append(row[start:])
    return [word for word in words if word not in (" ", "")]


def goes_on(first, sign):
    """Whether the word that begins with the first sign goes on with the other one."""
    return first in LETTERS and sign in LETTERS or first in DIGITS and sign in DIGITS


class LineReader:
    """A line of a text, whose words are taken one after the other."""

    def __init__(self, line, row):
        self.line = line
        self.words = words_of(row)
        self.at = 0

    def ahead(self):
        """The next word, or the empty word behind the last one."""
        return self.words[self.at] if self.at < len(self.words) else ""

    def take(self, fits):
        """Takes the next word if it fits. Raises TextFault if no line goes on with it."""
        if not fits:
            raise TextFault(self.line, self.at)
        self.at += 1
        return self.words[self.at - 1]

    def take_one_of(self, words):
        """Takes the next word, which must be one of these."""
        return self.take(self.ahead() in words)

    def take_yarn(self):
        """Takes the next word, which must be a yarn."""
        return self.take(is_yarn(self.ahead()))

    def take_number(self):
        """Takes the next word, which must be a number."""
        return int(self.take(is_number(self.ahead(), MOST_DIGITS)))

    def take_times(self):
        """Takes the next word, which must be a number that may stand in front of a command."""
        word = self.ahead()
        return int(self.take(is_number(word, MOST_DIGITS) and 1 <= int(word) <= MOST_TIMES))


def read_line(reader):
    """The line of a chart that the reader takes."""
    first = reader.take_one_of(FIRST_WORDS)
    reader.take_one_of((":",))
    items = []
    while reader.ahead() != "":
        if items:
            reader.take_one_of((",",))
        if first == "move":
            items.append((reader.take_number(), reader.take_one_of(WAYS)))
        else:
            items.extend(read_commands(reader))
    return ("move", items) if first == "move" else ("work", first, items)


def read_commands(reader):
    """The equal commands that the reader takes: one, or as many as the number in front of it says."""
    times = 1 if reader.ahead() in COMMANDS else reader.take_times()
    word = reader.take_one_of(COMMANDS)
    if word in ("pass", "drop"):
        return [(word,)] * times
    if word == "join":
        many = reader.take_number()
        return [("join", many, reader.take_one_of(WAYS), reader.take_one_of(SIDES), reader.take_yarn())] * times
    return [(word, reader.take_yarn())] * times


def write_chart(chart):
    """The written form of the chart."""
    return "\n".join([written_line(line) for line in chart])


def written_line(line):
    """The written form of a line."""
    if line[0] == "work":
        first, items = line[1], written_commands(line[2])
    else:
        first, items = line[0], [spaced(exchange) for exchange in line[1]]
    return first + ": " + ", ".join(items) if items else first + ":"


def written_commands(commands):
    """The written forms of commands, of which equal ones are written once with their number."""
    written = []
    at = 0
    while at < len(commands):
        many = 1
        while many < MOST_TIMES and at + many < len(commands) and commands[at + many] == commands[at]:
            many += 1
        command = spaced(commands[at])
        written.append(command if many == 1 else f"{many} {command}")
        at += many
    return written
