"""Numbers and instructions: which values are such, and how high an instruction reaches."""

LARGEST = 10 ** 30
DEEPEST_COPY = 98
DEEPEST_MOVE = 99


def is_integer(value):
    """Return whether a value is an integer; True and False are none."""
    return isinstance(value, int) and not isinstance(value, bool)


def is_between(value, low, high):
    """Return whether a value is an integer from low to high."""
    return is_integer(value) and low <= value <= high


def is_constant(value):
    """Return whether a value can be written by an instruction, and be a cell."""
    return is_between(value, -LARGEST, LARGEST)


def read_number(digits):
    """Return the number from 0 to 10 ** 30 that is written without leading zeros, or None."""
    # isdigit alone would also take digits of other scripts, and int fails for very long texts.
    if not digits.isascii() or not digits.isdigit() or len(digits) > len(str(LARGEST)):
        return None
    if digits.startswith("0") and digits != "0":
        return None
    number = int(digits)
    return number if number <= LARGEST else None


def read_constant(word):
    """Return what a word for a constant puts on top, as ("lit", constant), or None."""
    if not word.startswith("-"):
        number = read_number(word)
        return None if number is None else ("lit", number)
    number = read_number(word[1:])
    return None if number is None or number == 0 else ("lit", -number)


def read_depth(word, low, high):
    """Return the letter of a word and the depth behind it, from low to high, or None."""
    depth = read_number(word[1:])
    if depth is None or not low <= depth <= high:
        return None
    return (word[0], depth)


def read_instruction(word):
    """Return what an instruction does: ("lit", constant), ("p", depth), ("r", depth), ("d", 0); else None."""
    if not isinstance(word, str):
        return None
    if word == "d":
        return ("d", 0)
    if word.startswith("p"):
        return read_depth(word, 0, DEEPEST_COPY)
    if word.startswith("r"):
        return read_depth(word, 1, DEEPEST_MOVE)
    return read_constant(word)


def read_times(word):
    """Return how many times the word that closes a repeat tells, or None for any other word."""
    if not word.startswith(")"):
        return None
    times = read_number(word[1:])
    return None if times is None or times < 2 else times


def instruction_sizes(word):
    """Return the need, rise and growth of an instruction."""
    kind, number = read_instruction(word)
    if kind == "lit":
        return (0, 1, 1)
    if kind == "p":
        return (number + 1, 1, 1)
    if kind == "r":
        return (number + 1, 0, 0)
    return (1, 0, -1)
