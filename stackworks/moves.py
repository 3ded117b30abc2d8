"""Moves: what replaces the topmost cells, and what becomes of cells.

A move is a tuple (taken, left) like an effect, but it is not always cut, and no number is too great. Cells are
a tuple or a list from the bottom up, of sources or of anything else; none of these functions changes them.
"""

NO_MOVE = (0, ())


def inputs(low, high):
    """Return the sources of the untouched cells from depth high - 1 up to depth low."""
    return tuple([("in", depth) for depth in range(high - 1, low - 1, -1)])


def cut_move(move):
    """Return a move without what it leaves untouched at the bottom."""
    taken, left = move
    start = 0
    while start < len(left) and left[start] == ("in", taken - 1 - start):
        start = start + 1
    # The sources so far are different ones, so only those above can be the same again.
    for kind, number in left[start:]:
        if kind == "in" and taken - 1 - number < start:
            start = taken - 1 - number
    return (taken - start, left[start:])


def moved_cells(move, cells):
    """Return the list of the cells behind a move."""
    taken, left = move
    top = len(cells) - 1
    moved = list(cells[:len(cells) - taken])
    moved.extend([cells[top - source[1]] if source[0] == "in" else source for source in left])
    return moved


def run_cells(run, told, cells):
    """Return the list of the cells behind a run, a tuple of instructions that are told of (read_instruction)."""
    now = list(cells)
    for word in run:
        reach, growth, source = told[word]
        if growth == 0:
            now.append(now.pop(-reach))
        elif growth < 0:
            now.pop()
        elif source is None:
            now.append(now[-reach])
        else:
            now.append(source)
    return now


def joined_move(first, second):
    """Return the move of two, one behind the other."""
    taken, left = first
    deepest = max(taken, taken + second[0] - len(left))
    return (deepest, tuple(moved_cells(second, inputs(taken, deepest) + left)))


def repeated_move(move, times):
    """Return the move of so many times."""
    if times == 0:
        return NO_MOVE
    if times == 1:
        return move
    # Behind so many times each way has come to its end.
    if move[0] == len(move[1]) and times >= move[0]:
        return settled_move(move, times)
    return squared_move(move, times)


def squared_move(move, times):
    """Return the move of so many times, by squaring."""
    total = NO_MOVE
    square = move
    rest = times
    while rest > 0:
        if rest % 2 == 1:
            total = joined_move(total, square)
        rest = rest // 2
        if rest > 0:
            square = joined_move(square, square)
    return total


def ways_of(move):
    """Return where the cells of a move come from that leaves as many as it takes, performed again and again.

    The dict tells of each source the way back from it, a tuple (tail, ring, place): behind `tail` times or more,
    the cell has a source of the ring, a list; behind N times that at place + N. A constant is a ring of its own.
    """
    taken, left = move
    ways = {}
    for depth in range(taken):
        line = []
        places = {}
        source = ("in", depth)
        while source not in ways and source not in places:
            places[source] = len(line)
            line.append(source)
            if source[0] == "in":
                source = left[taken - 1 - source[1]]
        start = len(line)
        if source in places:
            start = places[source]
            ring = line[start:]
            for place, member in enumerate(ring):
                ways[member] = (0, ring, place)
        tail, ring, place = ways[source]
        for step, member in enumerate(reversed(line[:start]), 1):
            ways[member] = (tail + step, ring, place - step)
    return ways


def settled_move(move, times):
    """Return the move of so many times, at least as many as the cells that it takes and leaves."""
    taken = move[0]
    ways = ways_of(move)
    left = []
    for source in inputs(0, taken):
        _, ring, place = ways[source]
        left.append(ring[(place + times) % len(ring)])
    return (taken, tuple(left))
