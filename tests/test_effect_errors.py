"""[3], [4], [10], [16], section 7: wrong arguments of effects, alone and together."""

import copy
import random
import unittest

from stackworks.effects import Effect, effect_of, same_effect
from stackworks.errors import InvalidChoices, InvalidDepth, InvalidEffect, InvalidProgram, InvalidStack
from stackworks.errors import InvalidTimes, NotPlain, ShortStack, TooHigh
from stackworks.programs import Program
from tests import makers, reference

MOST = 10 ** 30
NO_NUMBERS = [*reference.STRANGE, "", "0", "1", (), (0,), Program("r1"), Effect(0, ()), Effect]
WRONG_TAKEN = [*NO_NUMBERS, -1, 101, -MOST, MOST, 10 ** 399, -10 ** 399]
WRONG_SOURCES = [
    *NO_NUMBERS, 0, "in", ("in",), ("in", 0, 0), ["in", 0], ("in", -1), ("in", True), ("in", False),
    ("in", "0"), ("in", None),
    ("in", (0,)), ("out", 0), ("IN", 0), ("", 0), (None, 0), (0, "in"), (b"in", 0), (("in",), 0), (["in"], 0), ("lit",),
    ("lit", True), ("lit", False), ("lit", "1"), ("lit", None), ("lit", MOST + 1), ("lit", -MOST - 1),
    ("lit", 10 ** 399),
    ("lit", 1, 0), ["lit", 1], ("in", 10 ** 399), ("in", -MOST), ("in", [0]), ("lit", [0]), ("lit", ()), {"in": 0},
]
WRONG_STACKS = [
    *reference.STRANGE, "", "1", 0, 1, [1, 2], (True,), (1, False), (None,), ("1",), (MOST + 1,), (1, -MOST - 1),
    ((1,),), ([],),
    (0,) * 101, (0,) * 400, (1, 2, 10 ** 399), Program(""), Effect(0, ()), b"12", {1: 2}, (1, "2", 3), (("lit", 1),),
]
WRONG_EFFECTS = [*reference.STRANGE, "", 0, 1, (), (0, ()), (1, (("in", 0),)), [0, ()], Program("r1"), Effect]
WRONG_PROGRAMS = [*reference.STRANGE, "", "r1", 0, 1, (), ("r1",), Effect(0, ()), Program]


class EffectErrorsTest(unittest.TestCase):
    def fails(self, error, call, **fields):
        with self.assertRaises(error) as caught:
            call()
        self.assertIs(type(caught.exception), error)
        self.assertEqual({name: getattr(caught.exception, name) for name in fields}, fields)

    def test_wrong_taken(self):
        for taken in WRONG_TAKEN:
            for left in ((), (("lit", 1),), [], None, (("in", 0),), (("in", 10 ** 300),)):
                self.fails(InvalidEffect, lambda: Effect(taken, left))

    def test_wrong_left(self):
        for taken in (0, 1, 100):
            for left in [*reference.STRANGE, "", "in", 0, [("lit", 1)], {("lit", 1): 1}, Effect(0, ()), ("in", 0)]:
                before = copy.copy(left) if isinstance(left, (list, dict)) else left
                self.fails(InvalidEffect, lambda: Effect(taken, left))
                self.assertEqual(before, left)
            for source in WRONG_SOURCES:
                for left in ((source,), (("lit", 1), source), (source, ("lit", 1)), (("lit", 0),) * 99 + (source,)):
                    self.fails(InvalidEffect, lambda: Effect(taken, left))

    def test_depths_that_are_not_taken(self):
        for taken in (0, 1, 2, 50, 99, 100):
            for depth in (taken, taken + 1, 100, 101, MOST):
                self.fails(InvalidEffect, lambda: Effect(taken, (("in", depth),)))
                self.fails(InvalidEffect, lambda: Effect(taken, (("lit", 1), ("in", depth), ("lit", 1))))
            for depth in range(taken):
                Effect(taken, (("lit", 1), ("in", depth)))

    def test_too_many_sources(self):
        for count in (0, 1, 99, 100):
            self.assertEqual(len(Effect(100, (("lit", 1),) * count)), count)
        for count in (101, 102, 400):
            self.fails(InvalidEffect, lambda: Effect(100, (("lit", 1),) * count))
            self.fails(InvalidEffect, lambda: Effect(100, (("in", 3),) * count))
        # Also sources that would be cut off count.
        self.fails(InvalidEffect, lambda: Effect(100, tuple(reference.marks(100)) + (("lit", 1),)))

    def test_valid_effects_raise_nothing(self):
        for number in (0, 1, -1, MOST, -MOST):
            self.assertEqual(Effect(0, (("lit", number),)).left, (("lit", number),))
        for taken in range(101):
            Effect(taken, ())
            Effect(taken, tuple(reference.marks(taken)))
            Effect(taken, tuple(reference.marks(taken)[::-1]))

    def test_wrong_stacks(self):
        for stack in WRONG_STACKS:
            for effect in (Effect(0, ()), Effect(3, (("lit", 1),)), Effect(100, ())):
                before = copy.copy(stack) if isinstance(stack, (list, dict)) else stack
                self.fails(InvalidStack, lambda: effect(stack))
                self.assertEqual(before, stack)

    def test_short_stacks(self):
        for taken in (1, 2, 7, 100):
            effect = Effect(taken, (("lit", 1),))
            for high in range(taken):
                self.fails(ShortStack, lambda: effect((0,) * high), least=taken)
            self.assertEqual(effect((0,) * taken), (1,))
        # Only the cut effect counts.
        self.assertEqual(Effect(5, tuple(reference.marks(5)))(()), ())
        self.fails(ShortStack, lambda: Effect(3, (("in", 2), ("in", 1), ("lit", 1)))(()), least=1)

    def test_wrong_depths(self):
        for effect in (Effect(0, ()), Effect(2, (("in", 0), ("lit", 1)))):
            for depth in [*NO_NUMBERS, -1, -2, -MOST, -10 ** 399]:
                self.fails(InvalidDepth, lambda: effect.source(depth))
            for depth in (0, 1, 100, 101, 10 ** 399):
                effect.source(depth)

    def test_wrong_effects_and_times(self):
        full = Effect(100, ())
        for effect in (Effect(0, ()), full, Effect(0, (("lit", 1),) * 100)):
            for value in WRONG_EFFECTS:
                self.fails(InvalidEffect, lambda: effect + value)
            for value in [*NO_NUMBERS, -1, -MOST, MOST + 1, 10 ** 399]:
                self.fails(InvalidTimes, lambda: effect * value)
        self.fails(TooHigh, lambda: full + full, limit=100)
        self.fails(TooHigh, lambda: full * 2, limit=100)
        self.fails(TooHigh, lambda: full * MOST, limit=100)

    def test_effect_of_with_wrong_values(self):
        for value in WRONG_PROGRAMS:
            self.fails(InvalidProgram, lambda: effect_of(value))
            for choices in ("", "0", "x", None, 0, [], "0" * 201):
                self.fails(InvalidProgram, lambda: effect_of(value, choices=choices))
        for text in ("", "r1", "{ | }"):
            for choices in ("x", None, 0, [], "0" * 201, "00"):
                self.fails(InvalidChoices, lambda: effect_of(Program(text), choices=choices))

    def test_same_effect_with_wrong_values(self):
        plain, pick = Program("r1"), Program("{ r1 | } d")
        for value in WRONG_PROGRAMS:
            for other in (plain, pick, value, None):
                self.fails(InvalidProgram, lambda: same_effect(value, other))
            self.fails(InvalidProgram, lambda: same_effect(plain, value))
            self.fails(NotPlain, lambda: same_effect(pick, value))
        self.fails(NotPlain, lambda: same_effect(plain, pick))
        self.fails(NotPlain, lambda: same_effect(pick, plain))
        self.fails(NotPlain, lambda: same_effect(pick, pick))
        self.assertIs(same_effect(plain, plain), True)

    def test_objects_do_not_change(self):
        rng = random.Random(71)
        for turn in range(100):
            effect = Effect(*makers.pair(rng, 9))
            values = makers.shown(effect)
            calls = [
                lambda: effect + effect, lambda: effect * 3, lambda: effect(tuple(range(20))), lambda: effect * -1,
                lambda: effect + 1, lambda: effect.source(4), lambda: effect == effect, lambda: effect((1, "2")),
            ]
            for call in calls:
                try:
                    call()
                except (InvalidTimes, InvalidEffect, InvalidStack):
                    pass
            self.assertEqual(makers.shown(effect), values)
        program = Program("( { r1 | r2 } ( 1 d )3 )2")
        values = makers.shown(program)
        effect_of(program, choices="01")
        self.assertEqual(makers.shown(program), values)
        self.assertTrue(effect_of(program, choices="01") == effect_of(program, choices="01"))


if __name__ == "__main__":
    unittest.main()
