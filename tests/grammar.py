"""The grammars of both texts as patterns, written apart from the program: where texts break them."""

import re

YARN = "[a-z]{1,8}"
NUMBER = "(0|[1-9][0-9]{0,2})"
TIMES = "([1-9][0-9]?|1[0-9][0-9]|200)"
COMMAND = f"({TIMES} )?((knit|purl|tuck) {YARN}|pass|drop|join {NUMBER} (left|right) (knit|purl) {YARN})"
EXCHANGE = f"{NUMBER} (left|right)"
LINE = f"(right|left) :( {COMMAND}( , {COMMAND})*)?|move :( {EXCHANGE}( , {EXCHANGE})*)?"

# Each beginning of a line that some line has goes on with one of these.
ENDS = ["", ":", "left", "2 left", "a", "knit a", "left knit a", "2 left knit a", "right :"]

NEEDLE = "(0|[1-9][0-9]{0,5})"
INSTRUCTION = f"rack (0|-?[1-9][0-9]{{0,5}})|(xfer|drop) (front|back) {NEEDLE}|(knit|tuck) (front|back) {NEEDLE} {YARN}"


def words_of(row):
    """The words of a row of text."""
    return re.findall("[a-z]+|[0-9]+|[^ ]", row)


def begins_line(words):
    """Whether some line begins with these words."""
    return any(re.fullmatch(LINE, " ".join(words + end.split())) for end in ENDS)


def text_fault(text):
    """The line and the word with which the text breaks the grammar, or None."""
    for line, row in enumerate(text.split("\n") if text else []):
        words = words_of(row)
        for k in range(len(words)):
            if not begins_line(words[:k + 1]):
                return line, k
        if not re.fullmatch(LINE, " ".join(words)):
            return line, len(words)
    return None


def code_fault(text):
    """The line with which the text is no text of code, or None."""
    for line, row in enumerate(text.split("\n") if text else []):
        if not re.fullmatch(INSTRUCTION, row):
            return line
    return None
