"""Decisions: what programs with choices may do, and what they do in any case."""

from stackworks.effects import MOST_CHOICES, check_depth
from stackworks.errors import TooLarge
from stackworks.masks import constants_of
from stackworks.moves import cut_move, inputs, moved_cells, source_behind
from stackworks.powers import check_source
from stackworks.programs import check_program

MOST_LISTED = 10


def bits_of(mask):
    """Return the ascending list of the places of the bits of a mask."""
    return [place for place in range(mask.bit_length()) if (mask >> place) & 1 == 1]


def sources_at(program, depth):
    """Return the ascending list of the possible sources of the cell at a depth."""
    taken, left = program.masks
    if depth >= len(left):
        return [("in", depth - len(left) + taken)]
    constants = constants_of(program.told)
    width = len(constants)
    found = bits_of(left[-1 - depth])
    sources = [("in", place - width) for place in found if place >= width]
    return sources + [constants[place] for place in found if place < width]


def possible_sources(program, depth):
    """Return the ascending list of the possible sources of the cell at a depth."""
    check_program(program)
    check_depth(depth)
    return sources_at(program, depth)


def certain_source(program, depth):
    """Return the certain source of the cell at a depth, or None."""
    check_program(program)
    check_depth(depth)
    sources = sources_at(program, depth)
    return sources[0] if len(sources) == 1 else None


def is_decided(program):
    """Return whether all choices lead to the same effect."""
    check_program(program)
    _, left = program.masks
    return all([(mask & (mask - 1)) == 0 for mask in left])


def most_met(pieces):
    """Return how many choices are met at most in pieces (see pieces_of)."""
    most = 0
    for kind, first, second in pieces:
        if kind == "choice":
            most = most + 1 + max(most_met(first), most_met(second))
        elif kind == "repeat":
            most = most + most_met(first) * second
    return most


def pieces_for(program, limit):
    """Return the pieces of a program that never meets more choices than the limit."""
    if most_met(program.pieces) > limit:
        raise TooLarge(limit)
    return program.pieces


def first_choices(piece):
    """Return the choices with which a piece performs all first parts."""
    kind, first, second = piece
    if kind == "move":
        return ""
    inside = "".join([first_choices(inner) for inner in first])
    return inside * second if kind == "repeat" else "0" + inside


def marks_behind(pieces, marks, source):
    """Return the list of the marks of the cells behind pieces: whether they can have a source.

    `marks` tells this of the cells before the pieces.
    """
    now = marks
    for kind, first, second in pieces:
        if kind == "move":
            now = [mark is True or mark == source for mark in moved_cells(first, now)]
        elif kind == "repeat":
            now = marks_behind(first * second, now, source)
        else:
            one = marks_behind(first, now, source)
            other = marks_behind(second, now, source)
            now = [mark or one[place] for place, mark in enumerate(other)]
    return now


def way_through(piece, marks, depth, source):
    """Return the choices in a piece that lead to a source for the cell at a depth, which can have it.

    This is the tuple (choices, depth of that cell before the piece), the depth None for a constant.
    """
    kind, first, second = piece
    if kind == "move":
        found = source_behind(first, depth)
        return ("", found[1] if found[0] == "in" else None)
    if kind == "repeat":
        return way_back_through(first * second, marks, depth, source)
    if marks_behind(first, marks, source)[-1 - depth]:
        choices, before = way_back_through(first, marks, depth, source)
        return ("0" + choices, before)
    choices, before = way_back_through(second, marks, depth, source)
    return ("1" + choices, before)


def way_back_through(pieces, marks, depth, source):
    """Return the same as way_through for several pieces."""
    before = [marks]
    for piece in pieces:
        before.append(marks_behind([piece], before[-1], source))
    choices = ""
    at = depth
    for piece, there in zip(pieces[::-1], before[-2::-1]):
        if at is None:
            more = first_choices(piece)
        else:
            more, at = way_through(piece, there, at, source)
        choices = more + choices
    return (choices, at)


def choices_for(program, depth, source):
    """Return choices with which the cell at a depth has a source, or None."""
    check_program(program)
    check_depth(depth)
    check_source(source)
    pieces = pieces_for(program, MOST_CHOICES)
    marks = [found == source for found in inputs(0, program.need)]
    behind = marks_behind(pieces, marks, source)
    if depth >= len(behind):
        if source != ("in", depth - program.growth):
            return None
        return "".join([first_choices(piece) for piece in pieces])
    if not behind[-1 - depth]:
        return None
    choices, _ = way_back_through(pieces, marks, depth, source)
    return choices


def added_numbers(numbers, more):
    """Return a dict of the numbers of two dicts, added where both have them."""
    added = {key: numbers[key] for key in numbers}
    for key, number in more.items():
        added[key] = added.get(key, 0) + number
    return added


def numbers_behind(pieces, numbers):
    """Return a dict of the cells behind pieces, with the number of choices that lead to them.

    `numbers` tells this of the cells before the pieces.
    """
    now = numbers
    for kind, first, second in pieces:
        if kind == "move":
            behind = {}
            for cells, number in now.items():
                key = tuple(moved_cells(first, cells))
                behind[key] = behind.get(key, 0) + number
            now = behind
        elif kind == "repeat":
            now = numbers_behind(first * second, now)
        else:
            now = added_numbers(numbers_behind(first, now), numbers_behind(second, now))
    return now


def effects_of(program):
    """Return the ascending list of the tuples (taken, left, number of choices) of each possible effect."""
    check_program(program)
    numbers = numbers_behind(pieces_for(program, MOST_LISTED), {inputs(0, program.need): 1})
    return sorted([cut_move((program.need, cells)) + (number,) for cells, number in numbers.items()])
