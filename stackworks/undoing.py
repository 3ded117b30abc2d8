"""Undoing: programs for effects, what undoes them, and which effects can still be reached."""

from stackworks.effects import check_effect
from stackworks.errors import Lost
from stackworks.moments import move_at
from stackworks.moves import inputs, moved_cells, run_cells
from stackworks.plans import best_plan, plan_words
from stackworks.programs import Program, check_plain, check_step
from stackworks.rows import parts_cells


def fewest_for(effect):
    """Return the least number of steps of a program with an effect."""
    check_effect(effect)
    return best_plan(inputs(0, effect.taken), effect.left)[0]


def program_for(effect):
    """Return a plain program without repeats with an effect, in as few steps as possible."""
    check_effect(effect)
    return Program(" ".join(plan_words(inputs(0, effect.taken), effect.left)))


def lost_depths(effect):
    """Return the list of the depths of the taken cells that are not left over, the least one first."""
    return [depth for depth in range(effect.taken) if ("in", depth) not in effect.left]


def can_undo(effect):
    """Return whether some effect leads from every stack behind this one back to the stack before it."""
    check_effect(effect)
    return len(lost_depths(effect)) == 0


def undo_for(effect):
    """Return a plain program without repeats that undoes an effect in as few steps as possible."""
    check_effect(effect)
    lost = lost_depths(effect)
    if len(lost) > 0:
        raise Lost(lost[0])
    return Program(" ".join(plan_words(effect.left, inputs(0, effect.taken))))


def steps_to_go(program, step, effect):
    """Return the least number of steps from the state behind so many steps to that behind an effect, or None."""
    check_plain(program)
    check_step(step, program.steps)
    check_effect(effect)
    taken, left = move_at(program, step)
    deepest = max(taken, effect.taken)
    best = best_plan(inputs(taken, deepest) + left, inputs(effect.taken, deepest) + effect.left)
    return None if best is None else best[0]


def has_all(cells, needed):
    """Return whether all sources that are needed are there."""
    there = {source: True for source in cells}
    return all([source in there for source in needed])


def lost_in_run(run, told, cells, needed):
    """Return the least number of steps of a run behind which a needed source is lost, if it is behind all."""
    low = 0
    high = len(run)
    while high - low > 1:
        middle = (low + high) // 2
        if has_all(run_cells(run[:middle], told, cells), needed):
            low = middle
        else:
            high = middle
    return high


def lost_in_pass(row, cells, needed):
    """Return the least number of steps of one pass behind which a needed source is lost, None if it is never."""
    now = cells
    for begin, part in zip(row.begins, row.parts):
        behind = parts_cells((part,), row.told, now)
        # What is lost stays lost.
        if not has_all(behind, needed):
            if isinstance(part, tuple):
                return begin + lost_in_run(part, row.told, now, needed)
            return begin + lost_in_row(part, now, needed)
        now = behind
    return None


def lost_in_row(row, cells, needed):
    """Return the least number of steps of all passes behind which a needed source is lost, if it is behind all.

    It is one of the first passes that loses it: as soon as a pass has lost nothing at all, none does any more.
    """
    now = cells
    begin = 0
    behind = moved_cells(row.move, now)
    while has_all(behind, needed):
        now = behind
        begin = begin + row.pass_steps
        behind = moved_cells(row.move, now)
    return begin + lost_in_pass(row, now, needed)


def lost_from(program, effect):
    """Return the least number of steps behind which an effect cannot be reached any more, or None."""
    check_plain(program)
    check_effect(effect)
    # Only the topmost cells that the program needs can be lost.
    needed = [
        ("in", depth) for depth in range(program.need)
        if depth >= effect.taken or ("in", depth) in effect.left
    ]
    return lost_in_pass(program.row, inputs(0, program.need), needed)
