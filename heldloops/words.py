"""Words of texts: yarns and numbers as they are written."""

LETTERS = "abcdefghijklmnopqrstuvwxyz"
DIGITS = "0123456789"
MOST_LETTERS = 8


def is_yarn(word):
    """Whether the word is the name of a yarn."""
    return 1 <= len(word) <= MOST_LETTERS and all(sign in LETTERS for sign in word)


def is_number(word, most):
    """Whether the word is a number of at most so many digits, without leading zeros."""
    # Without the limit a number may have more digits than Python reads.
    if not 1 <= len(word) <= most or not all(sign in DIGITS for sign in word):
        return False
    return len(word) == 1 or word[0] != "0"


def spaced(parts):
    """The parts of a command, an exchange or an instruction, separated by single spaces."""
    return " ".join([str(part) for part in parts])
