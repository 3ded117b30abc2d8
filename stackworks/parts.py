"""Programs as trees: rows of instructions, repeats and choices, with their sizes (need, rise, growth)."""

from stackworks.errors import InvalidText
from stackworks.words import instruction_sizes, read_instruction, read_times

MOST_WORDS = 1000
MOST_BRACKETS = 12


class Instruction:
    """A part that is one instruction."""

    def __init__(self, word):
        self.word = word
        self.sizes = instruction_sizes(word)
        self.is_plain = True
        self.steps = 1
        self.brackets = 0


class Repeat:
    """A part that performs a row several times."""

    def __init__(self, row, times):
        self.row = row
        self.times = times
        self.sizes = repeated_sizes(row.sizes, times)
        self.is_plain = row.is_plain
        self.steps = row.steps * times if row.is_plain else None
        self.brackets = row.brackets + 1


class Choice:
    """A part that performs the first or the second of two rows."""

    def __init__(self, first, second):
        self.first = first
        self.second = second
        self.sizes = greater_sizes(first.sizes, second.sizes)
        self.is_plain = False
        self.steps = None
        self.brackets = max(first.brackets, second.brackets) + 1


class Row:
    """Parts one behind the other; `begins` tells the steps before each part, and at last all steps."""

    def __init__(self, parts):
        self.parts = tuple(parts)
        self.sizes = row_sizes(parts)
        self.is_plain = all([part.is_plain for part in parts])
        self.begins = begins_of(parts) if self.is_plain else None
        self.steps = self.begins[-1] if self.is_plain else None
        self.brackets = max([part.brackets for part in parts], default=0)


def row_sizes(parts):
    """Return the need, rise and growth of parts, one behind the other."""
    need = 0
    rise = 0
    growth = 0
    for part in parts:
        part_need, part_rise, part_growth = part.sizes
        need = max(need, part_need - growth)
        rise = max(rise, growth + part_rise)
        growth = growth + part_growth
    return (need, rise, growth)


def repeated_sizes(sizes, times):
    """Return the need, rise and growth of several passes of a body with these sizes."""
    need, rise, growth = sizes
    more = times - 1
    return (need + more * max(0, -growth), rise + more * max(0, growth), growth * times)


def greater_sizes(first, second):
    """Return the need, rise and growth of a choice between two rows of the same growth."""
    need, rise, growth = first
    other_need, other_rise, _ = second
    return (max(need, other_need), max(rise, other_rise), growth)


def growth_of(part):
    """Return the growth of a part or a row."""
    return part.sizes[2]


def begins_of(parts):
    """Return the list of the numbers of steps before each plain part, and of all steps."""
    begins = [0]
    for part in parts:
        begins.append(begins[-1] + part.steps)
    return begins


def part_at(row, step):
    """Return the number of the part of a plain row that performs a step, or that of all parts at the end."""
    low = 0
    high = len(row.parts)
    while low < high:
        middle = (low + high + 1) // 2
        if row.begins[middle] <= step:
            low = middle
        else:
            high = middle - 1
    return low


def words_of(text):
    """Return the list of the words of a text."""
    return [] if text == "" else text.split(" ")


def closed_part(bracket, word, parts):
    """Return what a word makes of the parts behind the innermost bracket, or None if it is wrong there."""
    times = read_times(word)
    if times is not None and bracket == "(" and len(parts) > 0:
        return Repeat(Row(parts), times)
    if word == "|" and bracket == "{":
        return Row(parts)
    if word == "}" and bracket == "|":
        first = parts[0]
        second = Row(parts[1:])
        if growth_of(first) == growth_of(second):
            return Choice(first, second)
    return None


def read_text(text):
    """Return the row of a program text."""
    if not isinstance(text, str):
        raise InvalidText(None)
    words = words_of(text)
    # The parts behind all brackets that are not closed stand in one list; behind a bar, which takes
    # the place of its bracket, the finished first row of the choice stands before the other parts.
    parts = []
    brackets = []
    for index, word in enumerate(words):
        if index == MOST_WORDS:
            raise InvalidText(index)
        if word == "(" or word == "{":
            if len(brackets) == MOST_BRACKETS:
                raise InvalidText(index)
            brackets.append((word, len(parts)))
        elif read_instruction(word) is not None:
            parts.append(Instruction(word))
        else:
            bracket, start = brackets.pop() if len(brackets) > 0 else ("", 0)
            part = closed_part(bracket, word, parts[start:])
            if part is None:
                raise InvalidText(index)
            if word == "|":
                brackets.append(("|", start))
            parts = parts[:start] + [part]
    if len(brackets) > 0:
        raise InvalidText(len(words))
    return Row(parts)
