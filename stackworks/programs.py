"""Programs and their steps."""

from stackworks.errors import InvalidProgram, InvalidStep, InvalidTimes, InvalidWord
from stackworks.errors import NotPlain, TooDeep, TooHigh, TooLarge
from stackworks.parts import MOST_BRACKETS, MOST_WORDS, Repeat, part_at, read_text, words_of
from stackworks.words import LARGEST, is_between, read_instruction

MOST_CELLS = 100
MOST_WRITTEN = 1000


class Program:
    """A program text that is not too high."""

    def __init__(self, text):
        row = read_text(text)
        need, rise, growth = row.sizes
        if need + rise > MOST_CELLS:
            raise TooHigh(MOST_CELLS)
        self.text = text
        self.need = need
        self.rise = rise
        self.growth = growth
        self.is_plain = row.is_plain
        self.steps = row.steps
        self.row = row
        self.words = tuple(words_of(text))

    def __len__(self):
        return len(self.words)

    def __contains__(self, x):
        return isinstance(x, str) and x in self.words

    def __eq__(self, other):
        return isinstance(other, Program) and self.text == other.text

    def __add__(self, other):
        check_program(other)
        if len(self.words) + len(other.words) > MOST_WORDS:
            raise TooLarge(MOST_WORDS)
        return Program(" ".join(self.words + other.words))

    def __mul__(self, other):
        check_times(other)
        if other == 0:
            return Program("")
        if other == 1 or self.text == "":
            return self
        if len(self.words) + 2 > MOST_WORDS:
            raise TooLarge(MOST_WORDS)
        if self.row.brackets == MOST_BRACKETS:
            raise TooDeep(MOST_BRACKETS)
        return Program(f"( {self.text} ){other}")


def check_program(program):
    """Raise an error if a value is not a Program."""
    if not isinstance(program, Program):
        raise InvalidProgram("not a Program")


def check_plain(program):
    """Raise an error if a value is not a plain Program."""
    check_program(program)
    if not program.is_plain:
        raise NotPlain("the program has choices")


def check_times(times):
    """Raise an error if a value does not tell how many times."""
    if not is_between(times, 0, LARGEST):
        raise InvalidTimes("not an integer from 0 to 10 ** 30")


def check_step(step, most):
    """Raise an error if a value is not an integer from 0 to the most."""
    if not is_between(step, 0, most):
        raise InvalidStep("no such step")


def word_at(program, index):
    """Return the instruction of the step with an index."""
    check_plain(program)
    check_step(index, program.steps - 1)
    row = program.row
    step = index
    while True:
        number = part_at(row, step)
        part = row.parts[number]
        if not isinstance(part, Repeat):
            return part.word
        step = (step - row.begins[number]) % part.row.steps
        row = part.row


def places_before(row, index):
    """Return what remains to be done from a step on: tuples (row, number of the next part, further passes).

    The innermost row, which goes on first, is the last one.
    """
    places = []
    passes = 0
    step = index
    while True:
        number = part_at(row, step)
        if number == len(row.parts) or not isinstance(row.parts[number], Repeat):
            places.append((row, number, passes))
            return places
        places.append((row, number + 1, passes))
        repeat = row.parts[number]
        done, step = divmod(step - row.begins[number], repeat.row.steps)
        passes = repeat.times - 1 - done
        row = repeat.row


def words_from(program, index):
    """Yield the instructions from a step on, to the end."""
    check_plain(program)
    check_step(index, program.steps)
    places = places_before(program.row, index)
    while len(places) > 0:
        row, number, passes = places.pop()
        if number < len(row.parts):
            places.append((row, number + 1, passes))
            part = row.parts[number]
            if isinstance(part, Repeat):
                places.append((part.row, 0, part.times - 1))
            else:
                yield part.word
        elif passes > 0:
            places.append((row, 0, passes - 1))


def count_in_row(row, word):
    """Return how many steps of a plain row are an instruction."""
    total = 0
    for part in row.parts:
        if isinstance(part, Repeat):
            total = total + part.times * count_in_row(part.row, word)
        elif part.word == word:
            total = total + 1
    return total


def count_word(program, word):
    """Return the number of steps that are an instruction."""
    check_plain(program)
    if read_instruction(word) is None:
        raise InvalidWord("not an instruction")
    return count_in_row(program.row, word)


def written(program):
    """Return the tuple of the instructions of all steps."""
    check_plain(program)
    if program.steps > MOST_WRITTEN:
        raise TooLarge(MOST_WRITTEN)
    return tuple(words_from(program, 0))
