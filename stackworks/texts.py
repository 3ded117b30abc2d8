"""Program texts: their words, where they are wrong, and their sizes (need, rise, growth and steps)."""

from stackworks.errors import InvalidText
from stackworks.words import read_instruction, read_times

MOST_WORDS = 1000
MOST_BRACKETS = 12
NO_SIZES = (0, 0, 0, 0)
# An open bracket is the tuple of its word, the sizes before it, and, for the bar that takes the place of its
# bracket, those of the first part. This one stands where no bracket is open.
NO_BRACKET = ("", (0, 0, 0, 0), (0, 0, 0, 0))


def words_of(text):
    """Return the tuple of the words of a text."""
    return () if text == "" else tuple(text.split(" "))


def told_words(words):
    """Return a dict that tells of each word what it does as an instruction (read_instruction).

    Of a word that closes a repeat it tells (None, times, None), of all others (None, None, None).
    """
    told = {}
    for word in words:
        if word not in told:
            told[word] = read_instruction(word) or (None, read_times(word), None)
    return told


def joined_sizes(first, second):
    """Return the sizes of two parts, one behind the other."""
    need, rise, growth, steps = first
    next_need, next_rise, next_growth, next_steps = second
    if next_need - growth > need:
        need = next_need - growth
    if next_rise + growth > rise:
        rise = next_rise + growth
    return (need, rise, growth + next_growth, steps + next_steps)


def repeated_sizes(sizes, times):
    """Return the sizes of several passes of a body with these sizes."""
    need, rise, growth, steps = sizes
    more = (times - 1) * growth
    if more < 0:
        return (need - more, rise, more + growth, steps * times)
    return (need, rise + more, more + growth, steps * times)


def greater_sizes(first, second):
    """Return the sizes of a choice between two parts of the same growth; its steps mean nothing."""
    need, rise, growth, _ = first
    other_need, other_rise, _, _ = second
    return (max(need, other_need), max(rise, other_rise), growth, 0)


def closed_sizes(bracket, word, times, sizes):
    """Return the sizes behind a word that closes a bracket, a repeat so many times; None if it is wrong there."""
    sign, before, first = bracket
    if sign == "(" and times is not None:
        return joined_sizes(before, repeated_sizes(sizes, times))
    if sign == "|" and word == "}" and first[2] == sizes[2]:
        return joined_sizes(before, greater_sizes(first, sizes))
    return None


def text_sizes(words, told, known):
    """Return the sizes of words that are told of; of some of them, the known ones, the sizes are given.

    The steps mean something only if there are no choices. Raises InvalidText at the first wrong word.
    """
    opened = []
    start = need = rise = growth = steps = 0
    for index, word in enumerate(words[:MOST_WORDS]):
        reach, more, _ = told[word]
        if reach is not None:
            if reach - growth > need:
                need = reach - growth
            growth = growth + more
            if growth > rise:
                rise = growth
            continue
        sizes = (need, rise, growth, steps + index - start)
        start = index + 1
        if word == "(" or word == "{":
            if len(opened) == MOST_BRACKETS:
                raise InvalidText(index)
            opened.append((word, sizes, NO_SIZES))
            sizes = NO_SIZES
        elif word in known:
            sizes = joined_sizes(sizes, known[word])
        elif word == "|" and len(opened) > 0 and opened[-1][0] == "{":
            opened.append(("|", opened.pop()[1], sizes))
            sizes = NO_SIZES
        else:
            bracket = opened.pop() if len(opened) > 0 else NO_BRACKET
            sizes = closed_sizes(bracket, word, more, sizes)
            if sizes is None or words[index - 1] == "(":
                raise InvalidText(index)
        need, rise, growth, steps = sizes
    if len(words) > MOST_WORDS or len(opened) > 0:
        raise InvalidText(min(len(words), MOST_WORDS))
    return (need, rise, growth, steps + len(words) - start)


def most_open(words):
    """Return how many brackets are open at the same time in the words of a program text."""
    most = 0
    opened = 0
    for word in words:
        if word == "(" or word == "{":
            opened = opened + 1
            most = max(most, opened)
        elif word == "}" or word.startswith(")"):
            opened = opened - 1
    return most
