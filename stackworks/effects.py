"""Effects: what programs do to every stack."""

from stackworks.errors import InvalidChoices, InvalidDepth, InvalidEffect, InvalidStack
from stackworks.errors import ShortStack, TooHigh
from stackworks.moves import cut_move, inputs, joined_move, moved_cells, repeated_move
from stackworks.programs import MOST_CELLS, check_plain, check_program, check_times
from stackworks.words import is_between, is_constant, is_integer

MOST_CHOICES = 200


class Effect:
    """What the topmost cells are replaced by; it is cut."""

    def __init__(self, taken, left):
        if not is_between(taken, 0, MOST_CELLS) or not are_sources(left, taken):
            raise InvalidEffect("not the cells that are taken and the sources that are left")
        self.cut = cut_move((taken, left))

    @property
    def taken(self):
        """Return the number of cells that are replaced."""
        return self.cut[0]

    @property
    def left(self):
        """Return the sources of the cells that replace them, from the bottom up."""
        return self.cut[1]

    @property
    def growth(self):
        """Return the number of cells afterwards, less the number before."""
        return len(self.cut[1]) - self.cut[0]

    def __call__(self, stack):
        check_stack(stack)
        check_height(stack, self.taken)
        return stack_behind(self.cut, stack)

    def source(self, depth):
        """Return the source of the cell that is at a depth behind the effect."""
        check_depth(depth)
        if depth < len(self.left):
            return self.left[len(self.left) - 1 - depth]
        return ("in", depth - self.growth)

    def __len__(self):
        return len(self.left)

    def __eq__(self, other):
        return isinstance(other, Effect) and self.cut == other.cut

    def __add__(self, other):
        check_effect(other)
        return effect_with(joined_move(self.cut, other.cut))

    def __mul__(self, other):
        check_times(other)
        # The result would take or leave at least so many cells, and be very long before it is cut.
        if abs(self.growth) * other > MOST_CELLS:
            raise TooHigh(MOST_CELLS)
        return effect_with(repeated_move(self.cut, other))


def are_sources(left, taken):
    """Return whether a value is a tuple of at most 100 sources whose depths are less than taken."""
    if not isinstance(left, tuple) or len(left) > MOST_CELLS:
        return False
    for source in left:
        if not is_source(source) or source[0] == "in" and source[1] >= taken:
            return False
    return True


def is_source(value):
    """Return whether a value is a source with a depth from 0 on, or with a constant."""
    if not isinstance(value, tuple) or len(value) != 2 or not isinstance(value[0], str):
        return False
    if value[0] == "in":
        return is_integer(value[1]) and value[1] >= 0
    return value[0] == "lit" and is_constant(value[1])


def is_stack(value):
    """Return whether a value is a stack."""
    if not isinstance(value, tuple) or len(value) > MOST_CELLS:
        return False
    return all([is_constant(cell) for cell in value])


def check_stack(stack):
    """Raise an error if a value is not a stack."""
    if not is_stack(stack):
        raise InvalidStack("not a stack")


def check_height(stack, least):
    """Raise an error if a stack has fewer cells than the least number that is needed."""
    if len(stack) < least:
        raise ShortStack(least)


def check_effect(effect):
    """Raise an error if a value is not an Effect."""
    if not isinstance(effect, Effect):
        raise InvalidEffect("not an Effect")


def check_depth(depth):
    """Raise an error if a value is not the depth of a cell."""
    if not is_integer(depth) or depth < 0:
        raise InvalidDepth("not an integer from 0 on")


def stack_behind(move, stack):
    """Return the stack behind a move."""
    taken, left = move
    top = len(stack) - 1
    cells = [stack[top - number] if kind == "in" else number for kind, number in left]
    return stack[:len(stack) - taken] + tuple(cells)


def effect_with(move):
    """Return the effect with a move."""
    cut = cut_move(move)
    if cut[0] > MOST_CELLS or len(cut[1]) > MOST_CELLS:
        raise TooHigh(MOST_CELLS)
    effect = Effect(0, ())
    effect.cut = cut
    return effect


def piece_cells(piece, choices, met, cells):
    """Return the cells behind a piece, and how many choices are met behind it, if so many are met before it."""
    kind, first, second = piece
    if kind == "move":
        return (moved_cells(first, cells), met)
    if kind == "choice":
        if met == len(choices):
            raise InvalidChoices("more choices are met")
        return pieces_cells(first if choices[met] == "0" else second, choices, met + 1, cells)
    now = cells
    behind = met
    # Each pass meets a choice, so this ends soon, however many passes there are.
    for _ in range(second):
        now, behind = pieces_cells(first, choices, behind, now)
    return (now, behind)


def pieces_cells(pieces, choices, met, cells):
    """Return the cells behind pieces, and how many choices are met behind them, if so many are met before."""
    now = cells
    behind = met
    for piece in pieces:
        now, behind = piece_cells(piece, choices, behind, now)
    return (now, behind)


def are_choices(value):
    """Return whether a value is a string of at most 200 characters 0 and 1."""
    if not isinstance(value, str) or len(value) > MOST_CHOICES:
        return False
    return value.count("0") + value.count("1") == len(value)


def chosen_move(program, choices):
    """Return the move of a program with choices, any value; raise InvalidChoices if they are wrong."""
    if not are_choices(choices):
        raise InvalidChoices("not a string of at most 200 characters 0 and 1")
    if program.is_plain:
        move, met = (program.row.move, 0)
    else:
        cells, met = pieces_cells(program.pieces, choices, 0, inputs(0, program.need))
        move = (program.need, tuple(cells))
    if met != len(choices):
        raise InvalidChoices("fewer choices are met")
    return move


def effect_of(program, *, choices=""):
    """Return the effect of a program, with choices where it meets such."""
    check_program(program)
    return effect_with(chosen_move(program, choices))


def same_effect(program, other):
    """Return whether two plain programs do the same to all stacks that are high enough for both."""
    check_plain(program)
    check_plain(other)
    return program.row.move == other.row.move
