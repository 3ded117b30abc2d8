"""Numbers and instructions: which values are such, and what an instruction does."""

LARGEST = 10 ** 30
MOST_DIGITS = 31
DEEPEST_COPY = 98
DEEPEST_MOVE = 99


def is_integer(value):
    """Return whether a value is an integer; True and False are none."""
    return isinstance(value, int) and not isinstance(value, bool)


def is_between(value, low, high):
    """Return whether a value is an integer from low to high."""
    return is_integer(value) and low <= value <= high


def is_constant(value):
    """Return whether a value can be written by an instruction, and be a cell."""
    return isinstance(value, int) and -LARGEST <= value <= LARGEST and not isinstance(value, bool)


def read_digits(digits, most):
    """Return the number that is written without leading zeros in at most so many digits, or None."""
    # isdigit alone would also take digits of other scripts, and int fails for very long texts.
    if not digits.isascii() or not digits.isdigit() or len(digits) > most:
        return None
    if digits.startswith("0") and digits != "0":
        return None
    return int(digits)


def read_number(digits):
    """Return the number from 0 to 10 ** 30 that is written without leading zeros, or None."""
    number = read_digits(digits, MOST_DIGITS)
    return number if number is not None and number <= LARGEST else None


def read_constant(word):
    """Return the constant that a word puts on top, or None."""
    if not word.startswith("-"):
        return read_number(word)
    number = read_number(word[1:])
    return None if number is None or number == 0 else -number


def read_instruction(word):
    """Return what an instruction does, the tuple (reach, growth, source), or None for any other value.

    As many cells as `reach` tells must be there. Growth 1 puts a cell with the source on top, or a copy of the
    cell at depth reach - 1 if the source is None; growth 0 moves that cell to the top; -1 removes the top.
    """
    if not isinstance(word, str):
        return None
    if word == "d":
        return (1, -1, None)
    if word.startswith("p"):
        depth = read_number(word[1:])
        return None if depth is None or depth > DEEPEST_COPY else (depth + 1, 1, None)
    if word.startswith("r"):
        depth = read_number(word[1:])
        return None if depth is None or not 1 <= depth <= DEEPEST_MOVE else (depth + 1, 0, None)
    constant = read_constant(word)
    return None if constant is None else (0, 1, ("lit", constant))


def read_times(word):
    """Return how many times the word that closes a repeat tells, or None for any other word."""
    if not word.startswith(")"):
        return None
    times = read_number(word[1:])
    return None if times is None or times < 2 else times


def is_name(value, least, most):
    """Return whether a value is a string of so many letters from a to z."""
    if not isinstance(value, str) or not least <= len(value) <= most:
        return False
    return all(["a" <= letter <= "z" for letter in value])
