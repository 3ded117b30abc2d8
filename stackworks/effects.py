"""Effects: what programs do to every stack."""

from stackworks.errors import InvalidChoices, InvalidDepth, InvalidEffect, InvalidStack
from stackworks.errors import ShortStack, TooHigh
from stackworks.parts import Choice, Repeat
from stackworks.programs import MOST_CELLS, check_plain, check_program, check_times
from stackworks.words import is_between, is_constant, is_integer, read_instruction

MOST_CHOICES = 200

# A move is a tuple (taken, left) like an effect, but it is not always cut.
NO_MOVE = (0, ())


class Effect:
    """What the topmost cells are replaced by; it is cut."""

    def __init__(self, taken, left):
        if not is_between(taken, 0, MOST_CELLS) or not are_sources(left, taken):
            raise InvalidEffect("not the cells that are taken and the sources that are left")
        self.taken, self.left = cut_move((taken, left))
        self.growth = len(self.left) - self.taken

    def __call__(self, stack):
        check_stack(stack)
        if len(stack) < self.taken:
            raise ShortStack(self.taken)
        return stack[:len(stack) - self.taken] + seen_cells(self.left, stack)

    def source(self, depth):
        """Return the source of the cell that is at a depth behind the effect."""
        if not is_integer(depth) or depth < 0:
            raise InvalidDepth("not an integer from 0 on")
        if depth < len(self.left):
            return self.left[len(self.left) - 1 - depth]
        return ("in", depth - self.growth)

    def __len__(self):
        return len(self.left)

    def __eq__(self, other):
        return isinstance(other, Effect) and self.taken == other.taken and self.left == other.left

    def __add__(self, other):
        check_effect(other)
        return move_effect(joined_move((self.taken, self.left), (other.taken, other.left)))

    def __mul__(self, other):
        check_times(other)
        # The result would take or leave at least so many cells, and be very long before it is cut.
        if abs(self.growth) * other > MOST_CELLS:
            raise TooHigh(MOST_CELLS)
        return move_effect(repeated_move((self.taken, self.left), other))


def are_sources(left, taken):
    """Return whether a value is a tuple of at most 100 sources whose depths are less than taken."""
    if not isinstance(left, tuple) or len(left) > MOST_CELLS:
        return False
    return all([is_source(source, taken) for source in left])


def is_source(value, taken):
    """Return whether a value is a source whose depth is less than taken."""
    if not isinstance(value, tuple) or len(value) != 2 or not isinstance(value[0], str):
        return False
    if value[0] == "in":
        return is_between(value[1], 0, taken - 1)
    return value[0] == "lit" and is_constant(value[1])


def is_stack(value):
    """Return whether a value is a stack."""
    if not isinstance(value, tuple) or len(value) > MOST_CELLS:
        return False
    return all([is_constant(cell) for cell in value])


def check_stack(stack):
    """Raise an error if a value is not a stack."""
    if not is_stack(stack):
        raise InvalidStack("not a stack")


def check_effect(effect):
    """Raise an error if a value is not an Effect."""
    if not isinstance(effect, Effect):
        raise InvalidEffect("not an Effect")


def seen_cells(left, stack):
    """Return the tuple of the cells that have these sources in a stack."""
    top = len(stack) - 1
    return tuple([stack[top - number] if kind == "in" else number for kind, number in left])


def inputs(low, high):
    """Return the sources of the untouched cells from depth high - 1 up to depth low."""
    return tuple([("in", depth) for depth in range(high - 1, low - 1, -1)])


def cut_move(move):
    """Return a move without what it leaves untouched at the bottom."""
    taken, left = move
    counts = {}
    for source in left:
        counts[source] = counts.get(source, 0) + 1
    start = 0
    while start < len(left) and left[start] == ("in", taken - start - 1) and counts[left[start]] == 1:
        start += 1
    return (taken - start, left[start:])


def joined_move(first, second):
    """Return the move of two, one behind the other."""
    taken, left = first
    second_taken, second_left = second
    deepest = taken + max(0, second_taken - len(left))
    cells = inputs(taken, deepest) + left
    top = len(cells) - 1
    moved = [cells[top - source[1]] if source[0] == "in" else source for source in second_left]
    return (deepest, cells[:len(cells) - second_taken] + tuple(moved))


def repeated_move(move, times):
    """Return the move of so many times, by squaring."""
    total = NO_MOVE
    square = move
    rest = times
    while rest > 0:
        if rest % 2 == 1:
            total = joined_move(total, square)
        rest = rest // 2
        if rest > 0:
            square = joined_move(square, square)
    return total


def move_effect(move):
    """Return the effect of a move."""
    taken, left = cut_move(move)
    if taken > MOST_CELLS or len(left) > MOST_CELLS:
        raise TooHigh(MOST_CELLS)
    return Effect(taken, left)


def word_move(word):
    """Return the move of an instruction."""
    kind, number = read_instruction(word)
    if kind == "lit":
        return (0, (("lit", number),))
    if kind == "p":
        return (number + 1, inputs(0, number + 1) + (("in", number),))
    if kind == "r":
        return (number + 1, inputs(0, number) + (("in", number),))
    return (1, ())


def part_move(part):
    """Return the move of a plain part."""
    if isinstance(part, Repeat):
        return repeated_move(row_move(part.row), part.times)
    return word_move(part.word)


def row_move(row):
    """Return the move of a plain row."""
    total = NO_MOVE
    for part in row.parts:
        total = joined_move(total, part_move(part))
    return total


def pieces_of(row):
    """Return the list of the pieces of a row, tuples of three with their kind in front.

    They are ("move", move, None) for neighbouring plain parts, ("repeat", pieces, times) and
    ("choice", pieces, pieces). So a plain part is reckoned once, however often it is performed.
    """
    pieces = []
    move = NO_MOVE
    for part in row.parts:
        if part.is_plain:
            move = joined_move(move, part_move(part))
        else:
            pieces.append(("move", move, None))
            move = NO_MOVE
            if isinstance(part, Choice):
                pieces.append(("choice", pieces_of(part.first), pieces_of(part.second)))
            else:
                pieces.append(("repeat", pieces_of(part.row), part.times))
    pieces.append(("move", move, None))
    return pieces


def piece_move(piece, choices, met):
    """Return the move of a piece, and how many choices are met behind it, if so many are met before it."""
    kind, first, second = piece
    if kind == "move":
        return (first, met)
    if kind == "choice":
        if met == len(choices):
            raise InvalidChoices("more choices are met")
        return pieces_move(first if choices[met] == "0" else second, choices, met + 1)
    total = NO_MOVE
    behind = met
    # Each pass meets a choice, so this ends soon, however many passes there are.
    for _ in range(second):
        move, behind = pieces_move(first, choices, behind)
        total = joined_move(total, move)
    return (total, behind)


def pieces_move(pieces, choices, met):
    """Return the move of pieces, and how many choices are met behind them, if so many are met before."""
    total = NO_MOVE
    behind = met
    for piece in pieces:
        move, behind = piece_move(piece, choices, behind)
        total = joined_move(total, move)
    return (total, behind)


def are_choices(value):
    """Return whether a value is a string of at most 200 characters 0 and 1."""
    if not isinstance(value, str) or len(value) > MOST_CHOICES:
        return False
    return value.count("0") + value.count("1") == len(value)


def effect_of(program, *, choices=""):
    """Return the effect of a program, with choices where it meets such."""
    check_program(program)
    if not are_choices(choices):
        raise InvalidChoices("not a string of at most 200 characters 0 and 1")
    move, met = pieces_move(pieces_of(program.row), choices, 0)
    if met != len(choices):
        raise InvalidChoices("fewer choices are met")
    return move_effect(move)


def same_effect(program, other):
    """Return whether two plain programs do the same to all stacks that are high enough for both."""
    check_plain(program)
    check_plain(other)
    return effect_of(program) == effect_of(other)
