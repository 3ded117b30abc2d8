"""Programs and their steps."""

from stackworks.errors import InvalidProgram, InvalidStep, InvalidText, InvalidTimes, InvalidWord
from stackworks.errors import NotPlain, TooDeep, TooHigh, TooLarge
from stackworks.masks import possible_masks
from stackworks.rows import FEW_STEPS, number_at, pieces_of, row_of, way_to
from stackworks.texts import MOST_BRACKETS, MOST_WORDS, most_open, text_sizes, told_words, words_of
from stackworks.words import LARGEST, is_between, read_instruction

MOST_CELLS = 100
MOST_WRITTEN = 1000


class Program:
    """A program text that is not too high."""

    def __init__(self, text):
        if not isinstance(text, str):
            raise InvalidText(None)
        self.words = words_of(text)
        self.told = told_words(self.words)
        self.sizes = text_sizes(self.words, self.told, {})
        if self.need + self.rise > MOST_CELLS:
            raise TooHigh(MOST_CELLS)
        self._text = text
        self._row = None
        self._pieces = None
        self._masks = None

    @property
    def text(self):
        """Return the program text."""
        return self._text

    @property
    def need(self):
        """Return the least number of cells on a stack on which the program does not fail."""
        return self.sizes[0]

    @property
    def rise(self):
        """Return the greatest number of cells at any time, less the number before."""
        return self.sizes[1]

    @property
    def growth(self):
        """Return the number of cells afterwards, less the number before."""
        return self.sizes[2]

    @property
    def is_plain(self):
        """Return whether the program has no choices."""
        return "{" not in self.told

    @property
    def steps(self):
        """Return the number of steps, None if the program is not plain."""
        return self.sizes[3] if "{" not in self.told else None

    @property
    def row(self):
        """Return the program as a tree."""
        if self._row is None:
            self._row = row_of(self.words, self.told, {}, self.need + self.rise)
        return self._row

    @property
    def pieces(self):
        """Return the list of the pieces of the program (see pieces_of)."""
        if self._pieces is None:
            self._pieces = pieces_of(self.row)
        return self._pieces

    @property
    def masks(self):
        """Return what the program may replace the topmost cells by, a masked move."""
        if self._masks is None:
            self._masks = possible_masks(self.row)
        return self._masks

    def __len__(self):
        return len(self.words)

    def __contains__(self, x):
        return isinstance(x, str) and x in self.told

    def __eq__(self, other):
        return isinstance(other, Program) and self.text == other.text

    def __add__(self, other):
        check_program(other)
        if len(self.words) + len(other.words) > MOST_WORDS:
            raise TooLarge(MOST_WORDS)
        return Program(" ".join(self.words + other.words))

    def __mul__(self, other):
        check_times(other)
        if other == 0:
            return Program("")
        if other == 1 or len(self.words) == 0:
            return self
        if len(self.words) + 2 > MOST_WORDS:
            raise TooLarge(MOST_WORDS)
        if most_open(self.words) == MOST_BRACKETS:
            raise TooDeep(MOST_BRACKETS)
        return Program(f"( {self.text} ){other}")


def check_program(program):
    """Raise an error if a value is not a Program."""
    if not isinstance(program, Program):
        raise InvalidProgram("not a Program")


def check_plain(program):
    """Raise an error if a value is not a plain Program."""
    check_program(program)
    if not program.is_plain:
        raise NotPlain("the program has choices")


def check_times(times):
    """Raise an error if a value does not tell how many times."""
    if not is_between(times, 0, LARGEST):
        raise InvalidTimes("not an integer from 0 to 10 ** 30")


def check_step(step, most):
    """Raise an error if a value is not an integer from 0 to the most."""
    if not is_between(step, 0, most):
        raise InvalidStep("no such step")


def word_at(program, index):
    """Return the instruction of the step with an index."""
    check_plain(program)
    check_step(index, program.steps - 1)
    inner = program.row
    rest = index
    while not isinstance(inner, tuple):
        rest = rest % inner.pass_steps
        begins = inner.begins
        number = number_at(begins, rest)
        rest = rest - begins[number]
        inner = inner.parts[number]
    return inner[rest]


def words_from(program, index):
    """Yield the instructions from a step on, to the end."""
    check_plain(program)
    check_step(index, program.steps)
    if index == program.steps:
        return
    way = way_to(program.row, index)
    row, _, number, rest = way[-1]
    yield from row.parts[number][rest:]
    # What remains to be done: tuples (row, number of the next part, further passes). The innermost row, which
    # goes on first, is the last one.
    places = [(row, number + 1, row.times - 1 - done) for row, done, number, _ in way]
    while len(places) > 0:
        row, number, passes = places.pop()
        if number < len(row.parts):
            places.append((row, number + 1, passes))
            part = row.parts[number]
            if isinstance(part, tuple):
                yield from part
            elif part.all_steps <= FEW_STEPS:
                yield from part.run
            else:
                places.append((part, 0, part.times - 1))
        elif passes > 0:
            places.append((row, 0, passes - 1))


def count_in_row(row, word):
    """Return how many steps of all passes of a plain row are an instruction."""
    total = 0
    for part in row.parts:
        total = total + (part.count(word) if isinstance(part, tuple) else count_in_row(part, word))
    return total * row.times


def count_word(program, word):
    """Return the number of steps that are an instruction."""
    check_plain(program)
    if read_instruction(word) is None:
        raise InvalidWord("not an instruction")
    return count_in_row(program.row, word)


def written(program):
    """Return the tuple of the instructions of all steps."""
    check_plain(program)
    if program.steps > MOST_WRITTEN:
        raise TooLarge(MOST_WRITTEN)
    return tuple(words_from(program, 0))
