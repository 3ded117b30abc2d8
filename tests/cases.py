"""What several tests share: checks of errors, wrong values, and walks through all steps of programs."""

import copy
import itertools
import unittest

from stackworks.effects import Effect
from stackworks.errors import InvalidDepth, InvalidEffect, InvalidProgram, InvalidSource, InvalidStep, NotPlain
from stackworks.programs import Program
from stackworks.sessions import Session
from tests import makers, reference
from tests.test_effect_errors import NO_NUMBERS, WRONG_EFFECTS, WRONG_PROGRAMS, WRONG_SOURCES, WRONG_STACKS

MOST = 10 ** 30
WRONG_DEPTHS = [*NO_NUMBERS, -1, -MOST, -10 ** 399]
WRONG_TEXTS = [*reference.STRANGE, 0, 1, (), Program("r1"), Program, " ", "r1 ", " r1", "r1  r1", "(", "( )2", "r0",
               "p99", "( r1 )1", "{ r1 }", "{ d | 7 }", "d d x", "r1 \n", "r1\nr1", "d -0", "007",
               "( " * 13 + "r1" + " )2" * 13]
CHOOSING = [Program("{ | }"), Program("r1 ( { r1 | } )2")]


def wrong_steps(program):
    return [*NO_NUMBERS, -1, -MOST, program.steps + 1, 10 ** 399, -10 ** 399]


class Case(unittest.TestCase):
    def fails(self, error, call, **fields):
        with self.assertRaises(error) as caught:
            call()
        self.assertIs(type(caught.exception), error)
        self.assertEqual({name: getattr(caught.exception, name) for name in fields}, fields)

    def check_errors(self, call, *parameters):
        """Check the errors for wrong values of some parameters, alone and with others that are wrong, too.

        A parameter is the tuple of a right value and, in the order of the errors, lists (error, wrong values).
        """
        call(*[right for right, *errors in parameters])
        for at, (right, *errors) in enumerate(parameters):
            for error, wrong in errors:
                for value in wrong:
                    held = copy.copy(value) if isinstance(value, (list, dict, set)) else value
                    for behind in self.values_behind(parameters[at + 1:]):
                        before = [one[0] for one in parameters[:at]]
                        self.fails(error, lambda: call(*before, value, *behind))
                    self.assertEqual(held, value)

    def values_behind(self, parameters):
        """Yield right values of further parameters, then some in which one is wrong, then all wrong ones."""
        rights = [right for right, *errors in parameters]
        yield rights
        if parameters:
            last = [errors[-1][1][-1] if errors else right for right, *errors in parameters]
            yield last
            yield [errors[0][1][0] if errors else right for right, *errors in parameters]


def programs(right=Program("1 ( r2 )4 d"), plain=True):
    """Return the parameter `program` for check_errors."""
    errors = [(InvalidProgram, [*WRONG_PROGRAMS, Session.of("")])]
    return (right, *errors, (NotPlain, CHOOSING)) if plain else (right, *errors)


def effects(right=Effect(1, (("in", 0), ("lit", 7)))):
    """Return the parameter `effect` for check_errors."""
    return (right, (InvalidEffect, WRONG_EFFECTS))


def depths(right=0):
    return (right, (InvalidDepth, WRONG_DEPTHS))


def sources(right=("in", 10 ** 399)):
    return (right, (InvalidSource, [wrong for wrong in WRONG_SOURCES if wrong != ("in", 10 ** 399)]))


def steps_of(program, right=0):
    return (right, (InvalidStep, wrong_steps(program)))


def small_texts(seed, count, most=300, choices=False, length=25):
    """Yield texts of programs of few steps."""
    rng = makers.random.Random(seed)
    while count > 0:
        text = makers.text(rng, rng.randint(0, length), rng.randint(0, 4), choices, (2, 3, 5), rng.choice([2, 5, 30]))
        row = reference.read(text)
        if choices and reference.many_ways(row) <= most or not choices and reference.steps(row) <= most:
            count -= 1
            yield text


def walk(row, cells, at=0):
    """Yield (step, cells before it) of a plain row, without the passes of repeats that are like earlier ones.

    So each state that there is comes for the first time. The cells behind the row are returned.
    """
    for part in row:
        if isinstance(part, str):
            yield at, cells
            cells, at = list(cells), at + 1
            reference.perform(part, cells)
            continue
        seen, line, many, times = {}, [], reference.steps(part[1]), part[2]
        for done in range(times):
            key = tuple(cells)
            if key in seen:
                cells = list(line[seen[key] + (times - seen[key]) % (done - seen[key])])
                break
            seen[key] = done
            line.append(key)
            cells = yield from walk(part[1], cells, at + done * many)
        at += many * times
    return cells


def first_states(text, extra=0):
    """Yield (step, marked cells) of a program, and that of the end, in the order of the steps; see walk."""
    row = reference.read(text)

    def whole():
        cells = yield from walk(row, reference.marks(reference.sizes(row)[0] + extra))
        yield reference.steps(row), cells
    return whole()


def looping_texts(seed, count):
    """Yield texts of far programs whose repeats soon come round, so that walk ends soon."""
    rng = makers.random.Random(seed)
    while count > 0:
        body = makers.text(rng, rng.randint(1, 6), rng.choice([0, 0, 1]), False, (2, 3, MOST), 3)
        if not body or reference.sizes(reference.read(body))[2]:
            continue
        parts = [makers.text(rng, rng.randint(0, 4), 1, False, (2, 3), 3), f"( {body} ){rng.choice([MOST, 10 ** 29])}",
                 makers.text(rng, rng.randint(0, 4), 1, False, (2, 3), 3)]
        text = " ".join(part for part in parts if part)
        if reference.wrong_word(text) is None and not reference.is_high(text):
            many = sum(1 for state in itertools.islice(first_states(text), 3001))
            if many <= 3000:
                count -= 1
                yield text


def source_in(cells, height, depth):
    """Return the source of the cell at a depth of marked cells that so many have become."""
    return cells[-1 - depth] if depth < len(cells) else ("in", depth - len(cells) + height)
