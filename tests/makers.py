"""Programs and effects for the tests, made by a random source with a fixed seed."""

import random

from tests import reference


def word(rng, deep=4):
    """Return an instruction that reaches no deeper than so far."""
    kind = rng.randrange(10)
    if kind < 2:
        far = rng.randint(-10 ** 30, 10 ** 30)
        return str(rng.choice([0, 1, -1, 7, rng.randint(-50, 50), far, 10 ** 30, -10 ** 30]))
    if kind < 5:
        return f"p{rng.randint(0, deep)}"
    if kind < 8:
        return f"r{rng.randint(1, deep + 1)}"
    return "d"


def growth_of(words):
    return reference.sizes(reference.read(" ".join(words)))[2]


def with_growth(rng, words, growth):
    """Return words with this growth: those that are given and further ones, or others if it is far off."""
    now = growth_of(words)
    if abs(now - growth) > 60:
        words, now = [], 0
    more = [rng.choice(["p0", str(rng.randint(-9, 9))]) for place in range(growth - now)]
    return words + more + ["d"] * (now - growth)


def choice_words(rng, count, deep, times, reach):
    first = some_words(rng, rng.randint(0, count), deep, True, times, reach)
    second = some_words(rng, rng.randint(0, count), deep, True, times, reach)
    growth = growth_of(first)
    if abs(growth) > 60:
        first, growth = [], 0
    return ["{", *first, "|", *with_growth(rng, second, growth), "}"]


def repeat_words(rng, count, deep, choices, times, reach):
    body = some_words(rng, count, deep, choices, times, reach)
    many = rng.choice(times)
    if many > 5 or rng.random() < 0.8:
        body = with_growth(rng, body, 0)
    return ["(", *(body or ["p0", "d"]), f"){many}"]


def some_words(rng, count, deep, choices, times, reach):
    """Return the words of about so many instructions, with brackets at most so deep."""
    words = []
    while count > 0:
        kind = rng.random()
        if deep == 0 or kind > 0.3:
            words.append(word(rng, reach))
            count -= 1
            continue
        inside = rng.randint(1, min(count, 8))
        count -= inside
        if choices and kind < 0.12:
            words += choice_words(rng, inside, deep - 1, times, reach)
        else:
            words += repeat_words(rng, inside, deep - 1, choices, times, reach)
    return words


def text(rng, count, deep=3, choices=False, times=(2, 3), reach=4):
    """Return a program text that is not too high."""
    while True:
        words = some_words(rng, count, deep, choices, times, reach)
        found = " ".join(words)
        if len(words) <= 1000 and not reference.is_high(found):
            return found
        count = max(1, count * 9 // 10)


def nested(rng, deep, inner, times):
    """Return a text with so many brackets open at the same time, all of them repeats without growth."""
    found = inner
    for level in range(deep):
        found = f"( {rng.choice(['', 'r1 ', 'p0 d '])}{found} ){rng.choice(times)}"
    return found


def far_texts(seed, count):
    """Yield texts of plain programs of many steps, some of them with many brackets open at the same time."""
    rng, most = random.Random(seed), reference.LARGEST
    for turn in range(count):
        yield text(rng, rng.randint(20, 60), rng.randint(1, 5), False, (2, 7, most, 10 ** 29 + 1), 5)
    for deep in range(1, 12):
        yield nested(rng, deep, "r2 ( 5 d )3 r1", (2, most, most - 1))
    yield "( " * 12 + "r2 p0 d" + f" ){most}" * 12


def source(rng, taken):
    if taken == 0 or rng.random() < 0.25:
        return ("lit", rng.choice([0, 1, -1, rng.randint(-10 ** 30, 10 ** 30), 10 ** 30, -10 ** 30]))
    return ("in", rng.randrange(taken))


def pair(rng, most, balanced=False):
    """Return taken and left of an effect, which need not be cut."""
    taken = rng.randint(0, most)
    count = taken if balanced else rng.randint(0, most)
    kind = rng.randrange(4)
    if kind == 0:
        left = [source(rng, taken) for place in range(count)]
    else:
        # Inputs that stay, and some of them moved, copied or lost.
        left = reference.marks(taken)[:count]
        left += [source(rng, taken) for place in range(count - len(left))]
        if kind == 1:
            rng.shuffle(left)
        for change in range(rng.randint(0, 3) if left else 0):
            left[rng.randrange(len(left))] = source(rng, taken)
        if kind == 2 and len(left) > 1:
            start = rng.randrange(len(left))
            tail = left[start:]
            rng.shuffle(tail)
            left[start:] = tail
    return taken, tuple(left)


def names_like(rng, count):
    """Return different names for the lines of a source text."""
    found = []
    while len(found) < count:
        name = "".join(rng.choice("abdpr") for place in range(rng.choice([2, 2, 2, 3, 8])))
        if name not in found:
            found.append(name)
    return found


def source_text(rng, count, length, deep=2, choices=True, times=(2, 3), reach=3):
    """Return a source text of so many lines, the words of which are about so many instructions and names."""
    found, growths, names = [], {}, names_like(rng, count - 1)
    for name in names + [None]:
        words = some_words(rng, rng.randint(1, length), deep, choices, times, reach)
        growth = rng.choice([-1, 0, 0, 0, 1])
        words = with_growth(rng, words, growth) or ["p0", "d"]
        for at, word in enumerate(words):
            # A name with the same growth can stand for each instruction.
            same = [other for other in growths if reference.is_instruction(word)
                    and growths[other] == reference.grown(word)]
            if same and rng.random() < 0.4:
                words[at] = rng.choice(same)
        if name is None:
            found.append(" ".join(words if rng.random() < 0.9 else []))
        else:
            found.append(" ".join([name + ":"] + words))
            growths[name] = growth
    return "\n".join(found)


def stack(rng, high):
    """Return a stack of so many cells."""
    return tuple(rng.choice([rng.randint(-99, 99), rng.randint(-10 ** 30, 10 ** 30)]) for place in range(high))


def shown(value):
    """Return what a program or an effect tells of itself."""
    names = ["text", "need", "rise", "growth", "is_plain", "steps", "taken", "left"]
    return [getattr(value, name) for name in names if hasattr(value, name)] + [len(value)]
