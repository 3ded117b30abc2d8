"""Shortening: programs that do the same in fewer steps."""

from stackworks.effects import effect_of
from stackworks.moves import inputs
from stackworks.plans import best_plan, plan_words
from stackworks.programs import Program, check_plain, check_program
from stackworks.rows import Choice, parts_move
from stackworks.undoing import program_for


def shortest(program):
    """Return a plain program without repeats with the same effect as a plain one, in as few steps as possible."""
    check_plain(program)
    return program_for(effect_of(program))


def short_run(run, row):
    """Return the words of a run of a row, or fewer ones that do the same."""
    # No single instruction does nothing.
    if len(run) < 2:
        return run
    taken, left = parts_move((run,), row.told, row.high)
    cells = inputs(0, taken)
    steps, _ = best_plan(cells, left)
    return plan_words(cells, left) if steps < len(run) else run


def short_part(part):
    """Return the tuple of the words of a repeat or a choice, shortened; it is empty if nothing remains inside."""
    if isinstance(part, Choice):
        first = short_words(part.first)
        second = short_words(part.second)
        return ("{", *first, "|", *second, "}") if len(first) + len(second) > 0 else ()
    inside = short_words(part)
    return ("(", *inside, f"){part.times}") if len(inside) > 0 else ()


def short_words(row):
    """Return the list of the words of one pass of a row, shortened from inside to outside."""
    words = []
    run = ()
    for part in row.parts:
        if isinstance(part, tuple):
            run = run + part
            continue
        inside = short_part(part)
        # Over what has vanished the run goes on.
        if len(inside) > 0:
            words.extend(short_run(run, row))
            words.extend(inside)
            run = ()
    words.extend(short_run(run, row))
    return words


def shorten(program):
    """Return a program with each longest row of neighbouring instructions in as few steps as possible."""
    check_program(program)
    return Program(" ".join(short_words(program.row)))


def saved(program):
    """Return the number of steps that shorten saves."""
    check_plain(program)
    return program.steps - shorten(program).steps
