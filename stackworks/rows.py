"""Programs as trees: rows of runs, repeated rows and choices; their steps, and what they do to cells."""

from stackworks.moves import cut_move, inputs, lying_cells, moved_cells, repeated_move, run_cells

# So few steps are sooner performed one by one.
FEW_STEPS = 100


class Row:
    """Parts one behind the other, performed so many times.

    A part is a run (a tuple of instructions), another Row or a Choice. `told` tells what the instructions do, and
    `high` is a number of cells that each pass can do with. `pass_steps` and `all_steps` are the steps of one pass
    and of all passes, None if there are choices.
    """

    def __init__(self, parts, times, told, high):
        self.parts = parts
        self.times = times
        self.told = told
        self.high = high
        self.pass_steps = steps_of(parts)
        self.all_steps = None if self.pass_steps is None else self.pass_steps * times
        self._begins = None
        self._places = None
        self._run = None
        self._move = None
        self._lying = None

    @property
    def begins(self):
        """Return the list of the numbers of steps before each part of a plain row, and of those of one pass."""
        if self._begins is None:
            self._begins = begins_of(self.parts)
        return self._begins

    @property
    def places(self):
        """Return the list of the numbers of words before each part of a plain row, and of all its words."""
        if self._places is None:
            self._places = places_of(self.parts)
        return self._places

    @property
    def run(self):
        """Return the run of all passes of a plain row of few steps."""
        if self._run is None:
            self._run = written_run(self.parts) * self.times
        return self._run

    @property
    def move(self):
        """Return the cut move of one pass of a plain row."""
        if self._move is None:
            self._move = parts_move(self.parts, self.told, self.high)
        return self._move

    @property
    def lying(self):
        """Return the cut move of one pass of a plain row, with a constant in place of each cell that arrives."""
        if self._lying is None:
            self._lying = lying_move(self.parts, self.told, self.high)
        return self._lying


class Choice:
    """The first or the second of two rows."""

    def __init__(self, first, second):
        self.first = first
        self.second = second
        self.all_steps = None


def steps_of(parts):
    """Return the number of steps of parts, None if they have choices."""
    total = 0
    for part in parts:
        steps = len(part) if isinstance(part, tuple) else part.all_steps
        if steps is None:
            return None
        total = total + steps
    return total


def begins_of(parts):
    """Return the list of the numbers of steps before each plain part, and of all steps."""
    begins = [0]
    for part in parts:
        begins.append(begins[-1] + (len(part) if isinstance(part, tuple) else part.all_steps))
    return begins


def places_of(parts):
    """Return the list of the numbers of words before each plain part, and of all words."""
    places = [0]
    for part in parts:
        places.append(places[-1] + (len(part) if isinstance(part, tuple) else part.places[-1] + 2))
    return places


def row_of(words, told, known, high):
    """Return the row of the words of a program text; some of them, the known ones, stand for other rows."""
    parts = []
    # The numbers of the parts before each open bracket. Behind a bar the first row of the choice is a part.
    opened = []
    start = 0
    for index, word in enumerate(words):
        reach, times, _ = told[word]
        if reach is not None:
            continue
        if index > start:
            parts.append(words[start:index])
        start = index + 1
        if word in known:
            parts.append(known[word])
        elif word == "(" or word == "{":
            opened.append(len(parts))
        else:
            count = opened.pop()
            part = closed_part(word, tuple(parts[count:]), times, told, high)
            del parts[count:]
            parts.append(part)
            if word == "|":
                opened.append(count)
    if len(words) > start:
        parts.append(words[start:])
    return Row(tuple(parts), 1, told, high)


def closed_part(word, parts, times, told, high):
    """Return what a word that closes a bracket, a repeat so many times, makes of the parts behind it."""
    if word == "|":
        return Row(parts, 1, told, high)
    if word == "}":
        return Choice(parts[0], Row(parts[1:], 1, told, high))
    return Row(parts, times, told, high)


def number_at(begins, at):
    """Return the greatest number of those that begin at a place or before; the last one only ends."""
    low = 0
    high = len(begins) - 2
    while low < high:
        middle = (low + high + 1) // 2
        if begins[middle] <= at:
            low = middle
        else:
            high = middle - 1
    return low


def way_to(row, step):
    """Return the way to a step of a plain row.

    For each row around it, from outside to inside, this is the tuple (row, number of the pass, number of the
    part in it, number of the step in this part).
    """
    way = []
    inner = row
    rest = step
    while not isinstance(inner, tuple):
        done, rest = divmod(rest, inner.pass_steps)
        begins = inner.begins
        number = number_at(begins, rest)
        rest = rest - begins[number]
        way.append((inner, done, number, rest))
        inner = inner.parts[number]
    return way


def written_run(parts):
    """Return the run of plain parts of few steps."""
    run = ()
    for part in parts:
        run = run + (part if isinstance(part, tuple) else part.run)
    return run


def parts_cells(parts, told, cells):
    """Return the cells behind plain parts."""
    now = cells
    for part in parts:
        if isinstance(part, tuple):
            now = run_cells(part, told, now)
        elif part.all_steps <= FEW_STEPS:
            now = run_cells(part.run, told, now)
        else:
            now = moved_cells(repeated_move(part.move, part.times), now)
    return now


def parts_move(parts, told, high):
    """Return the cut move of plain parts that can do with so many cells."""
    return cut_move((high, tuple(parts_cells(parts, told, inputs(0, high)))))


def pieces_of(row):
    """Return the list of the pieces of a row, tuples of three with their kind in front.

    They are ("move", move, None) for neighbouring plain parts, ("repeat", pieces, times) and
    ("choice", pieces, pieces). So a plain part is reckoned once, however often it is performed.
    """
    pieces = []
    plain = []
    for part in row.parts:
        if isinstance(part, tuple) or part.all_steps is not None:
            plain.append(part)
            continue
        pieces.append(("move", parts_move(plain, row.told, row.high), None))
        plain = []
        if isinstance(part, Choice):
            pieces.append(("choice", pieces_of(part.first), pieces_of(part.second)))
        else:
            pieces.append(("repeat", pieces_of(part), part.times))
    pieces.append(("move", parts_move(plain, row.told, row.high), None))
    return pieces


def lying_move(parts, told, high):
    """Return the cut move of plain parts that can do with so many cells, for cells that lie still in them."""
    now = inputs(0, high)
    for part in parts:
        if isinstance(part, tuple):
            now = lying_cells(part, told, now)
        elif part.all_steps <= FEW_STEPS:
            now = lying_cells(part.run, told, now)
        else:
            now = moved_cells(repeated_move(part.lying, part.times), now)
    return cut_move((high, tuple(now)))


def cells_between(row, start, stop, cells):
    """Return the cells behind the steps of a plain row from one number of steps to another one."""
    if start == stop:
        return cells
    first, begin = divmod(start, row.pass_steps)
    last, end = divmod(stop, row.pass_steps)
    if first == last:
        return pass_cells(row, begin, end, cells)
    now = cells
    if begin > 0:
        now = pass_cells(row, begin, row.pass_steps, now)
        first = first + 1
    if first < last:
        now = moved_cells(repeated_move(row.move, last - first), now)
    return now if end == 0 else pass_cells(row, 0, end, now)


def pass_cells(row, begin, end, cells):
    """Return the cells behind the steps of one pass of a plain row from one number of steps to another one."""
    begins = row.begins
    first = number_at(begins, begin)
    last = number_at(begins, end)
    if first == last:
        return part_cells(row, first, begin - begins[first], end - begins[first], cells)
    now = part_cells(row, first, begin - begins[first], begins[first + 1] - begins[first], cells)
    now = parts_cells(row.parts[first + 1:last], row.told, now)
    return part_cells(row, last, 0, end - begins[last], now)


def part_cells(row, number, begin, end, cells):
    """Return the cells behind the steps of one part of a plain row from one number of steps to another one."""
    part = row.parts[number]
    if isinstance(part, tuple):
        return run_cells(part[begin:end], row.told, cells)
    return cells_between(part, begin, end, cells)
