"""Moments: the state behind any step of a plain program, and the word that is performed next there."""

from stackworks.effects import check_height, check_stack, effect_with, stack_behind
from stackworks.errors import InvalidIndex
from stackworks.moves import inputs
from stackworks.programs import check_plain, check_step
from stackworks.rows import cells_between, number_at, way_to
from stackworks.words import is_between


def move_at(program, step):
    """Return the move of the first steps of a plain program."""
    if step == program.steps:
        return program.row.move
    return (program.need, tuple(cells_between(program.row, 0, step, inputs(0, program.need))))


def effect_at(program, step):
    """Return the effect of the first steps of a program."""
    check_plain(program)
    check_step(step, program.steps)
    return effect_with(move_at(program, step))


def stack_at(program, step, stack):
    """Return the stack behind the first steps of a program."""
    check_plain(program)
    check_step(step, program.steps)
    check_stack(stack)
    check_height(stack, program.need)
    return stack_behind(move_at(program, step), stack)


def place_at(program, step):
    """Return where a program stands behind so many steps, None at the end.

    This is the tuple of the number of the word that is performed next, and the list of the numbers of the passes
    of the repeats around it, from outside to inside.
    """
    check_plain(program)
    check_step(step, program.steps)
    if step == program.steps:
        return None
    way = way_to(program.row, step)
    # Each row but the outermost one begins behind its bracket, which is a word, too.
    index = way[-1][3] + len(way) - 1
    for row, _, number, _ in way:
        index = index + row.places[number]
    return (index, [done for _, done, _, _ in way[1:]])


def path_to(program, index):
    """Return the path to an instruction in the text of a plain program, and its number in its run.

    For each row around it, from outside to inside, the path has the tuple (row, steps of a pass before the part).
    """
    path = []
    inner = program.row
    rest = index
    while True:
        number = number_at(inner.places, rest)
        rest = rest - inner.places[number]
        path.append((inner, inner.begins[number]))
        inner = inner.parts[number]
        if isinstance(inner, tuple):
            return (path, rest)
        # The bracket.
        rest = rest - 1


def next_on(path, level, offset, step):
    """Return the least number of steps, at least `step`, to the end of a path from a level on, or None."""
    if level == len(path):
        return offset if offset >= step else None
    row, begin = path[level]
    done, rest = divmod(step, row.pass_steps)
    if done >= row.times:
        return None
    inner = next_on(path, level + 1, offset, max(0, rest - begin))
    if inner is not None:
        return done * row.pass_steps + begin + inner
    if done + 1 == row.times:
        return None
    return (done + 1) * row.pass_steps + begin + next_on(path, level + 1, offset, 0)


def next_at(program, step, index):
    """Return the least number of steps, at least `step`, behind which the word with a number is next, or None."""
    check_plain(program)
    check_step(step, program.steps)
    check_index(program, index)
    path, offset = path_to(program, index)
    return next_on(path, 0, offset, step)


def check_index(program, index):
    """Raise an error if a value is not the number of an instruction in the text."""
    if not is_between(index, 0, len(program) - 1) or program.told[program.words[index]][0] is None:
        raise InvalidIndex("not the number of an instruction")
