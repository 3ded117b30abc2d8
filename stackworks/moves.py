"""Moves: what replaces the topmost cells, and what becomes of cells.

A move is a tuple (taken, left) like an effect, but it is not always cut, and no number is too great. Cells are
a tuple or a list from the bottom up, of sources or of anything else; none of these functions changes them.
"""

NO_MOVE = (0, ())
# Stands for each cell that has arrived; only what is no input matters.
ARRIVED = ("lit", 0)


def inputs(low, high):
    """Return the sources of the untouched cells from depth high - 1 up to depth low."""
    return tuple([("in", depth) for depth in range(high - 1, low - 1, -1)])


def cut_move(move):
    """Return a move without what it leaves untouched at the bottom."""
    taken, left = move
    start = 0
    while start < len(left) and left[start] == ("in", taken - 1 - start):
        start = start + 1
    # The sources so far are different ones, so only those above can be the same again.
    for kind, number in left[start:]:
        if kind == "in" and taken - 1 - number < start:
            start = taken - 1 - number
    return (taken - start, left[start:])


def moved_cells(move, cells):
    """Return the list of the cells behind a move."""
    taken, left = move
    top = len(cells) - 1
    moved = list(cells[:len(cells) - taken])
    moved.extend([cells[top - source[1]] if source[0] == "in" else source for source in left])
    return moved


def run_cells(run, told, cells):
    """Return the list of the cells behind a run, a tuple of instructions that are told of (read_instruction)."""
    now = list(cells)
    for word in run:
        reach, growth, source = told[word]
        if growth == 0:
            now.append(now.pop(-reach))
        elif growth < 0:
            now.pop()
        elif source is None:
            now.append(now[-reach])
        else:
            now.append(source)
    return now


def lying_cells(run, told, cells):
    """Return the list of the cells behind a run, with a constant in place of each cell that arrives in it."""
    now = list(cells)
    for word in run:
        reach, growth, _ = told[word]
        if growth < 0:
            now.pop()
            continue
        if growth == 0:
            now.pop(-reach)
        now.append(ARRIVED)
    return now


def source_behind(move, depth):
    """Return the source of the cell that is at a depth behind a move."""
    taken, left = move
    if depth < len(left):
        return left[-1 - depth]
    return ("in", depth - len(left) + taken)


def joined_move(first, second):
    """Return the move of two, one behind the other."""
    taken, left = first
    deepest = max(taken, taken + second[0] - len(left))
    return (deepest, tuple(moved_cells(second, inputs(taken, deepest) + left)))


def repeated_move(move, times):
    """Return the move of so many times."""
    if times == 0:
        return NO_MOVE
    if times == 1:
        return move
    # Behind so many times each way has come to its end.
    if move[0] == len(move[1]) and times >= move[0]:
        return settled_move(move, times)
    return squared_move(move, times)


def squared_move(move, times):
    """Return the move of so many times, by squaring."""
    total = NO_MOVE
    square = move
    rest = times
    while rest > 0:
        if rest % 2 == 1:
            total = joined_move(total, square)
        rest = rest // 2
        if rest > 0:
            square = joined_move(square, square)
    return total


def ways_of(move):
    """Return where the cells of a move come from that leaves as many as it takes, performed again and again.

    The dict tells of each source the way back from it, a tuple (tail, ring, place): behind `tail` times or more,
    the cell has a source of the ring, a list; behind N times that at place + N. A constant is a ring of its own.
    """
    taken, left = move
    ways = {}
    for depth in range(taken):
        line = []
        places = {}
        source = ("in", depth)
        while source not in ways and source not in places:
            places[source] = len(line)
            line.append(source)
            if source[0] == "in":
                source = left[taken - 1 - source[1]]
        start = len(line)
        if source in places:
            start = places[source]
            ring = line[start:]
            for place, member in enumerate(ring):
                ways[member] = (0, ring, place)
        tail, ring, place = ways[source]
        for step, member in enumerate(reversed(line[:start]), 1):
            ways[member] = (tail + step, ring, place - step)
    return ways


def settled_move(move, times):
    """Return the move of so many times, at least as many as the cells that it takes and leaves."""
    taken = move[0]
    ways = ways_of(move)
    left = []
    for source in inputs(0, taken):
        _, ring, place = ways[source]
        left.append(ring[(place + times) % len(ring)])
    return (taken, tuple(left))


def times_to_reach(move, depth):
    """Return how many times the way back from a depth stays in cells that the move does not replace.

    It is None if it stays there for ever.
    """
    taken, left = move
    growth = len(left) - taken
    if depth < len(left):
        return 0
    return (depth - len(left)) // growth + 1 if growth > 0 else None


def way_back(move, times, depth):
    """Return where the way back ends from the cell that is at a depth behind so many times.

    This is the tuple (times, depth): behind so many times the cell was at this depth, and the last one of them
    has put a constant there; for 0 times the cell was at this depth at the beginning.
    """
    taken, left = move
    growth = len(left) - taken
    far = times_to_reach(move, depth)
    if far is None or far >= times:
        return (0, depth - growth * times)
    # From here on the way goes back through the cells that the move has left, or out below them.
    at = depth - growth * far
    rest = times - far
    places = {}
    line = []
    while rest > 0 and at < len(left):
        if at in places:
            ring = line[places[at]:]
            return (0, ring[rest % len(ring)])
        places[at] = len(line)
        line.append(at)
        kind, number = left[-1 - at]
        if kind == "lit":
            return (rest, at)
        at = number
        rest = rest - 1
    return (0, at - growth * rest)
