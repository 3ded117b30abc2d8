"""Stacks: what programs make of them."""

from stackworks.effects import check_height, check_stack, chosen_move, stack_behind
from stackworks.moves import run_cells
from stackworks.programs import check_plain, check_program, words_from


def run(program, stack, *, choices=""):
    """Return the stack behind a program, with choices where it meets such."""
    check_program(program)
    check_stack(stack)
    check_height(stack, program.need)
    return stack_behind(chosen_move(program, choices), stack)


def told_constants(told):
    """Return what is told of words, with the constants themselves in the place of their sources."""
    return {
        word: (reach, growth, None if source is None else source[1])
        for word, (reach, growth, source) in told.items()
    }


def states(program, stack):
    """Yield the stack, then that behind each step of a plain program."""
    check_plain(program)
    check_stack(stack)
    check_height(stack, program.need)
    told = told_constants(program.told)
    cells = stack
    yield stack
    for word in words_from(program, 0):
        cells = run_cells((word,), told, cells)
        yield tuple(cells)
