"""Origins: where a cell comes from, by which step it arrived, and when a cell first has a source."""

from stackworks.effects import check_depth
from stackworks.moves import inputs, run_cells, source_behind, way_back
from stackworks.powers import check_source
from stackworks.programs import check_plain, check_step, word_at
from stackworks.rows import number_at, parts_cells


def back_in_run(run, told, depth, follows):
    """Return the way back through a run from the cell at a depth behind it.

    This is the tuple (number, depth): the number of the step that has put the cell on top, and its depth behind
    that step; or None, and its depth before the run. If `follows`, copies and moves are followed back, too.
    """
    at = depth
    for number in range(len(run) - 1, -1, -1):
        reach, growth, source = told[run[number]]
        if growth < 0:
            at = at + 1
        elif at > 0:
            if growth > 0 or at < reach:
                at = at - 1
        elif follows and source is None:
            at = reach - 1
        else:
            return (number, at)
    return (None, at)


def back_in_pass(row, steps, depth, follows):
    """Return the way back (see back_in_run) through the first steps of one pass of a row."""
    begins = row.begins
    at = depth
    for number in range(number_at(begins, steps), -1, -1):
        part = row.parts[number]
        rest = min(steps, begins[number + 1]) - begins[number]
        if isinstance(part, tuple):
            found, at = back_in_run(part[:rest], row.told, at, follows)
        else:
            found, at = back_in_row(part, rest, at, follows)
        if found is not None:
            return (begins[number] + found, at)
    return (None, at)


def back_in_row(row, steps, depth, follows):
    """Return the way back (see back_in_run) through the first steps of all passes of a row."""
    if steps == 0:
        return (None, depth)
    done, rest = divmod(steps, row.pass_steps)
    found, at = back_in_pass(row, rest, depth, follows)
    if found is None:
        done, at = way_back(row.move if follows else row.lying, done, at)
        if done == 0:
            return (None, at)
        done = done - 1
        found, at = back_in_pass(row, row.pass_steps, at, follows)
    return (done * row.pass_steps + found, at)


def origin_at(program, step, depth):
    """Return the source of the cell at a depth behind so many steps; of a constant also the step that wrote it."""
    check_plain(program)
    check_step(step, program.steps)
    check_depth(depth)
    number, at = back_in_row(program.row, step, depth, True)
    if number is None:
        return ("in", at)
    _, constant = program.told[word_at(program, number)][2]
    return ("lit", constant, number)


def arrived_at(program, step, depth):
    """Return the number of the step by which the cell at a depth arrived last, or None."""
    check_plain(program)
    check_step(step, program.steps)
    check_depth(depth)
    number, _ = back_in_row(program.row, step, depth, False)
    return number


def firsts_of_run(run, told, depth, cells, high):
    """Return the list of the tuples (steps, source) of the cell at a depth before each step of a run.

    The sources are those of cells that so many cells have become.
    """
    found = []
    now = cells
    for steps, word in enumerate(run):
        found.append((steps, source_behind((high, now), depth)))
        now = run_cells((word,), told, now)
    return found


def firsts_of_pass(row, depth, wanted):
    """Return a dict of the sources that the cell at a depth has in one pass of a plain row, before its last step.

    Each source has the least number of steps behind which it is there, and they are in the order of these numbers.
    If one is wanted (or None), nothing behind it need be told.
    """
    found = {}
    cells = inputs(0, row.high)
    for begin, part in zip(row.begins, row.parts):
        if isinstance(part, tuple):
            firsts = firsts_of_run(part, row.told, depth, cells, row.high)
        else:
            firsts = [
                (steps, source_behind((row.high, cells), source[1]) if source[0] == "in" else source)
                for source, steps in firsts_of_row(part, depth).items()
            ]
        for steps, source in firsts:
            if source not in found:
                found[source] = begin + steps
        if wanted in found:
            return found
        cells = parts_cells((part,), row.told, cells)
    return found


def firsts_of_row(row, depth):
    """Return a dict like firsts_of_pass for all passes of a plain row."""
    heads = list(firsts_of_pass(row, depth, None).items())
    found = {}
    done = 0
    # A source that is there already goes the same way as the one before, only later.
    while done < row.times and len(heads) > 0:
        further = []
        for source, steps in heads:
            if source not in found:
                found[source] = done * row.pass_steps + steps
                if source[0] == "in":
                    further.append((source_behind(row.move, source[1]), steps))
        heads = further
        done = done + 1
    return found


def first_with(program, depth, source):
    """Return the least number of steps behind which the cell at a depth has a source, or None."""
    check_plain(program)
    check_depth(depth)
    check_source(source)
    found = firsts_of_pass(program.row, depth, source)
    if source in found:
        return found[source]
    return program.steps if source_behind(program.row.move, depth) == source else None
