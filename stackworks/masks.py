"""Masks: the sources that cells may have behind programs with choices.

A mask is an integer with a bit for each source that is possible: first those of the constants of the program, in
ascending order, then those of the inputs, by their depths. A masked move is a tuple (taken, left) like a move,
with masks in the place of the sources.
"""

from stackworks.moves import inputs, repeated_move, run_cells
from stackworks.rows import FEW_STEPS, Choice


class Signs:
    """The bits of a program: `width` is the number of its constants; `told` is what is told of its words."""

    def __init__(self, told):
        self.constants = constants_of(told)
        self.width = len(self.constants)
        self.bits = {source: 1 << place for place, source in enumerate(self.constants)}
        self.told = {
            word: (reach, growth, None if source is None else self.bits[source])
            for word, (reach, growth, source) in told.items()
        }


def constants_of(told):
    """Return the ascending list of the sources of the constants among words that are told of."""
    return sorted([source for _, _, source in told.values() if source is not None])


def masks_of(sources, signs):
    """Return the tuple of the masks of cells with one source each."""
    width = signs.width
    bits = signs.bits
    return tuple([1 << (width + number) if kind == "in" else bits[(kind, number)] for kind, number in sources])


def mask_behind(mask, cells, width):
    """Return the mask of a cell with a mask if masked cells were there before."""
    found = mask & ((1 << width) - 1)
    rest = mask >> width
    while rest > 0:
        depth = rest.bit_length() - 1
        found = found | cells[-1 - depth]
        rest = rest ^ (1 << depth)
    return found


def masks_behind(masks, cells, width):
    """Return the tuple of the masks of cells with masks if masked cells were there before."""
    known = {}
    for mask in masks:
        if mask not in known:
            known[mask] = mask_behind(mask, cells, width)
    return tuple([known[mask] for mask in masks])


def cut_masks(move, width):
    """Return a masked move without what it leaves untouched at the bottom."""
    taken, left = move
    most = min(taken, len(left))
    start = 0
    while start < most and left[start] == 1 << (width + taken - 1 - start):
        start = start + 1
    for mask in left[start:]:
        # The least one is -1, if the cell is a constant.
        deepest = (mask >> width).bit_length() - 1
        start = min(start, taken - 1 - deepest)
    return (taken - start, left[start:])


def moved_masks(move, cells, width):
    """Return the masked cells behind a masked move."""
    taken, left = move
    return tuple(cells[:len(cells) - taken]) + masks_behind(left, cells, width)


def repeated_masks(left, times, width):
    """Return the masks that so many times leave of those that leave as many cells as they take."""
    squares = [left]
    places = {left: 0}
    rest = times
    while 1 << len(squares) <= rest:
        square = masks_behind(squares[-1], squares[-1], width)
        if square in places:
            # From here on the squares come round, and so do all powers.
            first = 1 << places[square]
            rest = first + (rest - first) % ((1 << len(squares)) - first)
            break
        places[square] = len(squares)
        squares.append(square)
    found = None
    for place, square in enumerate(squares):
        if (rest >> place) & 1 == 1:
            found = square if found is None else masks_behind(found, square, width)
    return found


def pass_masks(row, signs):
    """Return the cut masked move of one pass of a row."""
    cells = masks_of(inputs(0, row.high), signs)
    return cut_masks((row.high, parts_masks(row.parts, signs, cells)), signs.width)


def row_masks(row, signs):
    """Return the masked move of all passes of a row."""
    if row.all_steps is not None:
        taken, left = repeated_move(row.move, row.times)
        return (taken, masks_of(left, signs))
    move = pass_masks(row, signs)
    taken, left = move
    if taken == len(left):
        return (taken, repeated_masks(left, row.times, signs.width))
    cells = masks_of(inputs(0, row.high), signs)
    # There are at most 100 passes with growth.
    for _ in range(row.times):
        cells = moved_masks(move, cells, signs.width)
    return cut_masks((row.high, cells), signs.width)


def parts_masks(parts, signs, cells):
    """Return the tuple of the masked cells behind parts."""
    now = cells
    for part in parts:
        if isinstance(part, tuple):
            now = tuple(run_cells(part, signs.told, now))
        elif isinstance(part, Choice):
            first = parts_masks(part.first.parts, signs, now)
            second = parts_masks(part.second.parts, signs, now)
            now = tuple([one | other for one, other in zip(first, second)])
        elif part.all_steps is not None and part.all_steps <= FEW_STEPS:
            now = tuple(run_cells(part.run, signs.told, now))
        else:
            now = moved_masks(row_masks(part, signs), now, signs.width)
    return now


def possible_masks(row):
    """Return the cut masked move of a row."""
    return pass_masks(row, Signs(row.told))
