"""Units: source texts whose lines name programs, and use the names of earlier lines as words."""

from stackworks.effects import effect_with
from stackworks.errors import InvalidName, InvalidText, InvalidUnits, NotPlain, TooDeep, TooHigh, TooLarge
from stackworks.moves import NO_MOVE
from stackworks.programs import MOST_CELLS, Program
from stackworks.rows import row_of
from stackworks.texts import MOST_BRACKETS, MOST_WORDS, most_open, text_sizes, told_words, words_of
from stackworks.words import is_name

MOST_LINES = 20
LEAST_LETTERS = 2
MOST_LETTERS = 8


class Line:
    """A line of a source text: its name (None for the last one), its further words, and their sizes.

    The sizes are those of the words that the line stands for. `told` tells what the instructions do.
    """

    def __init__(self, name, words, told, sizes):
        self.name = name
        self.words = words
        self.told = told
        self.sizes = sizes


def read_name(words):
    """Return the name in the first one of some words, `NAME:`, or None if it is no such word."""
    if len(words) == 0 or not words[0].endswith(":"):
        return None
    name = words[0][:-1]
    return name if is_name(name, LEAST_LETTERS, MOST_LETTERS) else None


def line_sizes(words, told, known, number, first):
    """Return the sizes of the further words of a line with a number; the first one of them has a number, too."""
    try:
        return text_sizes(words, told, known)
    except InvalidText as wrong:
        raise InvalidUnits(number, wrong.index + first) from None


def read_lines(source_text):
    """Return the list of the lines of a source text; raise InvalidUnits if a value is none."""
    if not isinstance(source_text, str):
        raise InvalidUnits(None, None)
    texts = source_text.split("\n")
    told = told_words(source_text.replace("\n", " ").split(" "))
    lines = []
    known = {}
    for number, text in enumerate(texts[:MOST_LINES]):
        words = words_of(text)
        if number == len(texts) - 1:
            lines.append(Line(None, words, told, line_sizes(words, told, known, number, 0)))
        else:
            name = read_name(words)
            if name is None or name in known:
                raise InvalidUnits(number, 0)
            if len(words) == 1:
                raise InvalidUnits(number, 1)
            sizes = line_sizes(words[1:], told, known, number, 1)
            known[name] = sizes
            lines.append(Line(name, words[1:], told, sizes))
    if len(texts) > MOST_LINES:
        raise InvalidUnits(MOST_LINES, 0)
    return lines


def check_name(lines, name):
    """Raise an error if a value is not the name of one of the lines."""
    if not isinstance(name, str) or name not in [line.name for line in lines]:
        raise InvalidName("not one of the names")


def replaced_words(words, written):
    """Return the tuple of words in which the names are replaced by what is written, None if there are too many."""
    found = []
    for word in words:
        more = written[word] if word in written else (word,)
        if more is None or len(found) + len(more) > MOST_WORDS:
            return None
        found.extend(more)
    return tuple(found)


def written_program(lines, name):
    """Return the program of the line with a name, of the last line if it is None."""
    written = {}
    for line in lines:
        written[line.name] = replaced_words(line.words, written)
    words = written[name]
    if words is None:
        raise TooLarge(MOST_WORDS)
    if most_open(words) > MOST_BRACKETS:
        raise TooDeep(MOST_BRACKETS)
    return Program(" ".join(words))


def link(source_text):
    """Return the program of the last line of a source text."""
    return written_program(read_lines(source_text), None)


def unit(source_text, name):
    """Return the program of the line with a name."""
    lines = read_lines(source_text)
    check_name(lines, name)
    return written_program(lines, name)


def unit_names(source_text):
    """Return the list of the names, in order."""
    return [line.name for line in read_lines(source_text)[:-1]]


def used_lines(lines, name):
    """Return the list of the lines that the line with a name is made of, in order, itself the last one."""
    used = []
    words = {name: True}
    for line in lines[::-1]:
        if line.name in words:
            used.append(line)
            words.update({word: True for word in line.words})
    return used[::-1]


def plain_lines(source_text, name):
    """Return the list of the lines that the line with a name is made of, if its program is plain and not too high."""
    lines = read_lines(source_text)
    check_name(lines, name)
    used = used_lines(lines, name)
    if any(["{" in line.words for line in used]):
        raise NotPlain("the program of the line has choices")
    need, rise, _, _ = used[-1].sizes
    if need + rise > MOST_CELLS:
        raise TooHigh(MOST_CELLS)
    return used


def unit_steps(source_text, name):
    """Return the number of steps of the line with a name."""
    return plain_lines(source_text, name)[-1].sizes[3]


def unit_effect(source_text, name):
    """Return the effect of the line with a name."""
    rows = {}
    move = NO_MOVE
    # Each row reckons its move before a later one needs it, so that no call goes deeper than one line.
    for line in plain_lines(source_text, name):
        need, rise, _, _ = line.sizes
        rows[line.name] = row_of(line.words, line.told, rows, need + rise)
        move = rows[line.name].move
    return effect_with(move)
