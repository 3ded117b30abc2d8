"""A second reading of the document, slow and plain, with which the tests compare the package."""

import re

LARGEST = 10 ** 30
INSTRUCTION = re.compile(r"0|-?[1-9][0-9]*|p0|[pr][1-9][0-9]?|d")


class Wrong(Exception):
    """The number of the first wrong word."""


# Values that are no strings, numbers, tuples or objects of the package.
STRANGE = [None, True, False, b"", b"r1", [], ["r1"], {}, {"r1": 1}, {1}, frozenset(), object(), len, int, range(2)]


def is_instruction(word):
    if not isinstance(word, str) or INSTRUCTION.fullmatch(word) is None or word == "p99":
        return False
    return word[0] in "prd" or abs(int(word[:40])) <= LARGEST and len(word) < 40


def is_times(word):
    return re.fullmatch(r"\)[1-9][0-9]{0,30}", word) is not None and 2 <= int(word[1:]) <= LARGEST


def row_of(words, at, deep, where, known=()):
    """Read words into a list of words, ("repeat", row, times) and ("choice", row, row); tell where it ends.

    Words that are known, with their sizes, become ("known", word, sizes).
    """
    row = []
    while at < len(words):
        word = words[at]
        if at == 1000 or word in ("(", "{") and deep == 12:
            raise Wrong(at)
        if is_instruction(word):
            row.append(word)
        elif word in known:
            row.append(("known", word, known[word]))
        elif word == "(":
            body, at = row_of(words, at + 1, deep + 1, "repeat", known)
            row.append(("repeat", body, int(words[at][1:])))
        elif word == "{":
            first, at = row_of(words, at + 1, deep + 1, "first", known)
            second, at = row_of(words, at + 1, deep + 1, "second", known)
            if sizes(first)[2] != sizes(second)[2]:
                raise Wrong(at)
            row.append(("choice", first, second))
        elif where == "repeat" and is_times(word) and row or (where, word) in (("first", "|"), ("second", "}")):
            return row, at
        else:
            raise Wrong(at)
        at += 1
    if where != "whole":
        raise Wrong(at)
    return row, at


def split(text):
    return text.split(" ") if text else []


def read(text):
    return row_of(split(text), 0, 0, "whole")[0]


def wrong_word(text):
    """Return the number of the first wrong word, or None."""
    try:
        read(text)
    except Wrong as wrong:
        return wrong.args[0]
    return None


def needed(word):
    """Return how many cells an instruction needs."""
    return {"d": 1, "p": int(word[1:] or 0) + 1, "r": int(word[1:] or 0) + 1}.get(word[0], 0)


def grown(word):
    return {"d": -1, "r": 0}.get(word[0], 1)


def sizes(row):
    """Return need, rise and growth by the rules of [8]."""
    total = (0, 0, 0)
    for part in row:
        if isinstance(part, str):
            one = (needed(part), max(0, grown(part)), grown(part))
        elif part[0] == "known":
            one = part[2]
        elif part[0] == "repeat":
            need, rise, growth = sizes(part[1])
            more = (part[2] - 1) * growth
            one = (need - min(0, more), rise + max(0, more), growth * part[2])
        else:
            one = tuple(max(pair) for pair in zip(sizes(part[1]), sizes(part[2])))
        total = (max(total[0], one[0] - total[2]), max(total[1], total[2] + one[1]), total[2] + one[2])
    return total


def is_high(text):
    need, rise, growth = sizes(read(text))
    return need + rise > 100


def is_plain(row):
    return all(isinstance(part, str) or part[0] == "repeat" and is_plain(part[1]) for part in row)


def steps(row):
    """Return the number of steps of a plain row."""
    return sum(1 if isinstance(part, str) else steps(part[1]) * part[2] for part in row)


def depth(row):
    """Return how many brackets are open at the same time."""
    inner = [depth(body) for part in row if not isinstance(part, str) for body in part[1:] if isinstance(body, list)]
    return 1 + max(inner) if inner else 0


def ways(row):
    """Return all pairs of choices and the instructions that are then performed, for a small row."""
    found = [("", ())]
    for part in row:
        if isinstance(part, str):
            found = [(text, words + (part,)) for text, words in found]
        elif part[0] == "repeat":
            body = ways(part[1])
            for turn in range(part[2]):
                found = [(text + more, words + behind) for text, words in found for more, behind in body]
        else:
            both = [("0" + text, words) for text, words in ways(part[1])]
            both += [("1" + text, words) for text, words in ways(part[2])]
            found = [(text + more, words + behind) for text, words in found for more, behind in both]
    return found


def many_ways(row):
    """Return the number of ways, without writing them."""
    total = 1
    for part in row:
        if isinstance(part, tuple) and part[0] == "repeat":
            total *= many_ways(part[1]) ** min(part[2], 1000)
        elif isinstance(part, tuple):
            total *= many_ways(part[1]) + many_ways(part[2])
    return total


def perform(word, cells):
    """Perform one instruction on a list of cells; constants are put down as sources."""
    if word == "d":
        cells.pop()
    elif word[0] == "p":
        cells.append(cells[-1 - int(word[1:])])
    elif word[0] == "r":
        cells.append(cells.pop(-1 - int(word[1:])))
    else:
        cells.append(("lit", int(word)))


def run_row(row, cells):
    """Return the marked cells behind a plain row; a repeat stops as soon as its passes come round."""
    cells = list(cells)
    for part in row:
        if isinstance(part, str):
            perform(part, cells)
        else:
            cells = many_times(lambda before: run_row(part[1], before), cells, part[2])
    return cells


def many_times(turn, cells, times):
    """Return the cells behind so many turns; the ones of a ring are found by their place in it."""
    seen, line = {}, []
    for done in range(times):
        key = tuple(cells)
        if key in seen:
            start = seen[key]
            return list(line[start + (times - start) % (done - start)])
        seen[key] = done
        line.append(key)
        cells = turn(cells)
    return cells


def marks(high):
    """Return so many marked cells, the deepest one first."""
    return [("in", at) for at in range(high - 1, -1, -1)]


def cut(taken, left):
    left = list(left)
    while left and left[0] == ("in", taken - 1) and left.count(left[0]) == 1:
        left.pop(0)
        taken -= 1
    return taken, tuple(left)


def effect_of_row(row):
    """Return taken and left of a plain row from a run on marked cells."""
    need = sizes(row)[0]
    return cut(need, run_row(row, marks(need)))


def effect_by_parts(row):
    """Return taken and left of a plain row from those of the bodies of its repeats."""
    need = sizes(row)[0]
    cells = marks(need)
    for part in row:
        if isinstance(part, str):
            perform(part, cells)
        else:
            body = effect_by_parts(part[1])
            cells = many_times(lambda before: moved(*body, before), cells, part[2])
    return cut(need, cells)


def moved(taken, left, cells):
    """Return the cells behind an effect."""
    below = len(cells) - taken
    return cells[:below] + [cells[-1 - number] if kind == "in" else (kind, number) for kind, number in left]


def effect_of_effects(effects):
    """Return taken and left of pairs (taken, left), one behind the other, from marked cells."""
    high = sum(taken for taken, left in effects)
    cells = marks(high)
    for taken, left in effects:
        cells = moved(taken, left, cells)
    return cut(high, cells)


def effect_times(effect, times):
    """Return taken and left of an effect without growth, performed so many times."""
    taken, left = effect
    return cut(taken, many_times(lambda cells: moved(taken, left, cells), marks(taken), times))


def all_words(row):
    """Return the instructions of all steps of a small plain row."""
    return [word for part in row for word in ([part] if isinstance(part, str) else all_words(part[1]) * part[2])]


def values(cells):
    """Return the tuple of cells without the mark of the constants that were written."""
    return tuple(cell[1] if isinstance(cell, tuple) else cell for cell in cells)


def source_at(taken, left, depth):
    """Return the source of the cell at a depth behind an effect."""
    return left[-1 - depth] if depth < len(left) else ("in", depth - len(left) + taken)


def back(taken, left, depth, times):
    """Return the sources of the cell at a depth behind 0, 1, 2 and so many times."""
    found = [("in", depth)]
    for time in range(times):
        kind, number = found[-1]
        found.append(source_at(taken, left, number) if kind == "in" else found[-1])
    return found


class Source:
    """A source text: the names, the words of the lines, their sizes, and the place (line, word) of an error."""

    def __init__(self, text):
        self.names, self.lines, self.sizes, self.wrong = [], [], {}, None
        texts = text.split("\n")
        for number, line in enumerate(texts):
            found = self.wrong_word(split(line), number == len(texts) - 1) if number < 20 else 0
            if found is not None:
                self.wrong = (number, found)
                break

    def wrong_word(self, words, last):
        """Take a line; return the number of its first wrong word, or None."""
        if not last:
            found = re.fullmatch("([a-z]{2,8}):", words[0]) if words else None
            if found is None or found[1] in self.names:
                return 0
            if len(words) == 1:
                return 1
        further = words if last else words[1:]
        try:
            row = row_of(further, 0, 0, "whole", self.sizes)[0]
        except Wrong as wrong:
            return wrong.args[0] + len(words) - len(further)
        self.lines.append(further)
        if not last:
            self.names.append(found[1])
            self.sizes[found[1]] = sizes(row)
        return None

    def written(self, number, most=3000):
        """Return the words of a line with the names replaced, or only more than the most of them."""
        words = []
        for word in self.lines[number]:
            words += self.written(self.names.index(word), most) if word in self.names else [word]
            if len(words) > most:
                break
        return words

    def expected(self, number):
        """Return the text of the program of a line, or the name and the limit of the error for it."""
        words = self.written(number)
        if len(words) > 1000:
            return ("TooLarge", 1000)
        opened = deepest = 0
        for word in words:
            opened += (word in "({") - (word[0] in ")}")
            deepest = max(deepest, opened)
        if deepest > 12:
            return ("TooDeep", 12)
        return ("TooHigh", 100) if is_high(" ".join(words)) else " ".join(words)
