"""[2], [10], section 7: the class Effect."""

import itertools
import random
import unittest
from unittest import mock

from stackworks.effects import Effect
from stackworks.errors import TooHigh
from stackworks.programs import Program
from tests import makers, reference

MOST = 10 ** 30


def cells_behind(taken, left, stack):
    return tuple(reference.moved(taken, [(kind, number) for kind, number in left], list(stack)))


def worth(cells):
    """Return cells without the mark of those that an effect wrote."""
    return tuple(cell[1] if isinstance(cell, tuple) else cell for cell in cells)


def pairs(seed, count, most=100):
    rng = random.Random(seed)
    for turn in range(count):
        yield makers.pair(rng, rng.choice([1, 2, 3, 6, most]))
    for high in (0, 1, 2, 99, 100):
        yield high, tuple(reference.marks(high))
        yield high, tuple(reference.marks(high)[1:])
        yield high, ()
        yield 0, (("lit", high),) * high
        yield max(1, high), (("in", 0),) * high


class CutTest(unittest.TestCase):
    def test_cut(self):
        for taken, left in pairs(41, 1500):
            effect = Effect(taken, left)
            cut_taken, cut_left = reference.cut(taken, left)
            self.assertEqual((effect.taken, effect.left), (cut_taken, cut_left))
            self.assertEqual(effect.growth, len(left) - taken)
            self.assertEqual(len(effect), len(cut_left))
            again = Effect(effect.taken, effect.left)
            self.assertEqual((again.taken, again.left), (cut_taken, cut_left))

    def test_cut_by_hand(self):
        a, b, c, five = ("in", 0), ("in", 1), ("in", 2), ("lit", 5)
        table = [
            (0, (), 0, ()), (1, (a,), 0, ()), (3, (c, b, a), 0, ()), (3, (c, b), 1, ()), (3, (c, a, b), 2, (a, b)),
            (3, (b, c, a), 3, (b, c, a)), (2, (b, a, b), 2, (b, a, b)), (2, (b, a, a), 1, (a, a)),
            (2, (b, five), 1, (five,)),
            (1, (five, a), 1, (five, a)), (2, (five, b, a), 2, (five, b, a)), (3, (c, b, a, five), 0, (five,)),
            (2, (a,), 2, (a,)), (2, (b,), 1, ()), (1, (a, a), 1, (a, a)), (3, (c, b, a, b), 2, (b, a, b)),
            (3, (c, c), 3, (c, c)), (0, (five,), 0, (five,)), (100, tuple(reference.marks(100)), 0, ()),
        ]
        for taken, left, cut_taken, cut_left in table:
            effect = Effect(taken, left)
            self.assertEqual((effect.taken, effect.left), (cut_taken, cut_left))
            self.assertIs(type(effect.left), tuple)

    def test_source_at_all_depths(self):
        for taken, left in pairs(42, 300):
            effect = Effect(taken, left)
            cells = reference.moved(taken, left, reference.marks(taken + 150))
            for depth in range(len(left) + 100):
                self.assertEqual(effect.source(depth), cells[-1 - depth])
            for depth in (MOST, 10 ** 300, 10 ** 399):
                self.assertEqual(effect.source(depth), ("in", depth - len(left) + taken))

    def test_equal_exactly_if_the_cut_ones_are(self):
        rng = random.Random(43)
        found = [makers.pair(rng, rng.choice([1, 2, 2, 3])) for turn in range(150)]
        for first, second in itertools.product(found, found):
            same = reference.cut(*first) == reference.cut(*second)
            self.assertIs(Effect(*first) == Effect(*second), same)
            self.assertIs(Effect(*first) != Effect(*second), not same)
        self.assertTrue(Effect(100, tuple(reference.marks(100))) == Effect(0, ()))
        self.assertFalse(Effect(0, (("lit", 1),)) == Effect(1, (("lit", 1),)))
        self.assertFalse(Effect(0, (("lit", 1),)) == Effect(0, (("lit", 2),)))

    def test_equal_to_no_other_value(self):
        for effect in (Effect(0, ()), Effect(1, ()), Effect(1, (("in", 0), ("lit", 0)))):
            others = [*reference.STRANGE, (effect.taken, effect.left), effect.left, 0, 1, (), "", Program(""), Effect]
            for value in others:
                self.assertIs(effect == value, False)
                self.assertIs(value == effect, False)
                self.assertIs(effect != value, True)
            self.assertIs(effect == mock.ANY, False)


class CallTest(unittest.TestCase):
    def test_stacks(self):
        rng = random.Random(44)
        for taken, left in pairs(45, 600):
            effect = Effect(taken, left)
            for high in {effect.taken, effect.taken + 1, 100} & set(range(101)):
                stack = tuple([rng.randint(-MOST, MOST) for place in range(high)])
                expected = worth(cells_behind(effect.taken, effect.left, stack))
                self.assertEqual(effect(stack), expected)
                if high >= taken:
                    self.assertEqual(effect(stack), worth(cells_behind(taken, left, stack)))

    def test_results_of_more_than_100_cells(self):
        stack = tuple(range(100))
        self.assertEqual(Effect(0, (("lit", 7),))(stack), stack + (7,))
        self.assertEqual(Effect(1, (("in", 0),) * 100)(stack), stack[:-1] + (99,) * 100)

    def test_edges(self):
        self.assertEqual(Effect(0, ())(()), ())
        self.assertEqual(Effect(2, (("in", 0), ("lit", -MOST), ("in", 1)))((MOST, -MOST)), (-MOST, -MOST, MOST))
        self.assertEqual(Effect(2, (("in", 1), ("lit", 7)))((5,)), (7,))


class TogetherTest(unittest.TestCase):
    def check(self, call, expected):
        """Compare the effect that a call returns with taken and left, or with the error for more than 100 cells."""
        taken, left = expected
        if taken > 100 or len(left) > 100:
            with self.assertRaises(TooHigh) as caught:
                call()
            self.assertEqual((caught.exception.limit, type(caught.exception)), (100, TooHigh))
        else:
            effect = call()
            self.assertEqual((effect.taken, effect.left, effect.growth, len(effect)),
                             (taken, left, len(left) - taken, len(left)))

    def test_plus(self):
        rng = random.Random(46)
        for turn in range(1200):
            most = rng.choice([2, 4, 10, 55, 100])
            first, second = makers.pair(rng, most), makers.pair(rng, most)
            one, other = Effect(*first), Effect(*second)
            before = (one.taken, one.left, other.taken, other.left)
            self.check(lambda: one + other, reference.effect_of_effects([first, second]))
            self.assertEqual((one.taken, one.left, other.taken, other.left), before)

    def test_plus_at_the_limit(self):
        for count in range(45, 56):
            push, drop = Effect(0, (("lit", 1),) * count), Effect(count, ())
            for more in range(45, 56):
                other_push, other_drop = (0, (("lit", 2),) * more), (more, ())
                turn = (more, tuple(reference.marks(more)[::-1]))
                for effect, pair in ((push, (0, (("lit", 1),) * count)), (drop, (count, ()))):
                    for second in (other_push, other_drop, turn):
                        self.check(lambda: effect + Effect(*second), reference.effect_of_effects([pair, second]))

    def test_only_the_cut_result_counts(self):
        roll = Effect(100, (("in", 98), ("in", 99)) + tuple(reference.marks(98)))
        back = Effect(99, (("in", 97), ("in", 98)) + tuple(reference.marks(97)))
        one, drop = Effect(0, (("lit", 1),)), Effect(1, ())
        self.assertTrue(roll + roll == Effect(0, ()))
        self.assertTrue(back + one + drop + back == Effect(0, ()))
        self.check(lambda: roll + drop, (100, (("in", 98), ("in", 99)) + tuple(reference.marks(98)[:-1])))
        self.check(lambda: drop + roll, (101, ()))
        self.check(lambda: drop + back, (100, (("in", 98), ("in", 99)) + tuple(reference.marks(98)[:-1])))
        self.check(lambda: roll + one, (100, roll.left + (("lit", 1),)))
        self.check(lambda: back + one, (99, back.left + (("lit", 1),)))
        self.check(lambda: back + one + one, (99, back.left + (("lit", 1),) * 2))

    def test_associative(self):
        rng = random.Random(47)
        for turn in range(500):
            most = rng.choice([2, 4, 12, 33])
            a, b, c = [Effect(*makers.pair(rng, most)) for place in range(3)]
            self.assertTrue((a + b) + c == a + (b + c))

    def test_the_effect_that_does_nothing(self):
        nothing = Effect(0, ())
        for taken, left in pairs(48, 200):
            effect = Effect(taken, left)
            self.assertTrue(effect + nothing == effect)
            self.assertTrue(nothing + effect == effect)
            self.assertTrue(effect * 0 == nothing)
            self.assertTrue(effect * 1 == effect)

    def test_few_times(self):
        rng = random.Random(49)
        for turn in range(400):
            pair = makers.pair(rng, rng.choice([2, 3, 5, 9, 40]), turn % 3 == 0)
            effect = Effect(*pair)
            for times in range(6):
                self.check(lambda: effect * times, reference.effect_of_effects([pair] * times))
            before = (effect.taken, effect.left)
            times = rng.randint(6, 60)
            self.check(lambda: effect * times, reference.effect_of_effects([pair] * times))
            self.assertEqual((effect.taken, effect.left), before)

    def test_many_times_without_growth(self):
        rng = random.Random(50)
        for turn in range(400):
            pair = makers.pair(rng, rng.choice([1, 2, 4, 8, 12]), True)
            for times in (99, 100, 101, rng.randint(0, MOST), MOST - 1, MOST):
                self.check(lambda: Effect(*pair) * times, reference.effect_times(pair, times))

    def test_many_times_with_100_cells(self):
        rng = random.Random(51)
        ring = Effect(100, tuple(reference.marks(100)[1:]) + (("in", 99),))
        self.assertTrue(ring * 100 == Effect(0, ()))
        self.assertTrue(ring * MOST == ring * (MOST % 100))
        self.assertTrue(ring * 101 == ring)
        shift = Effect(100, (("lit", 3),) + tuple(reference.marks(100)[:-1]))
        self.check(lambda: shift * 99, (100, (("lit", 3),) * 99 + (("in", 99),)))
        self.check(lambda: shift * 100, (100, (("lit", 3),) * 100))
        self.check(lambda: shift * MOST, (100, (("lit", 3),) * 100))
        swaps = [("in", at ^ 1) for at in range(99, -1, -1)]
        self.assertTrue(Effect(100, tuple(swaps)) * MOST == Effect(0, ()))
        for turn in range(20):
            order = reference.marks(100)
            rng.shuffle(order)
            effect, once = Effect(100, tuple(order)), reference.marks(100)
            for times in range(1, 8):
                once = reference.moved(100, order, once)
                self.check(lambda: effect * times, reference.cut(100, once))

    def test_about_as_many_times_as_cells(self):
        rng = random.Random(53)
        for turn in range(150):
            most = rng.choice([1, 2, 5, 20, 100])
            taken, left = makers.pair(rng, most, True)
            effect = Effect(taken, left)
            high = effect.taken
            for times in {0, 1, 2, high // 2, high - 1, high, high + 1, 2 * high, 3 * high + 1} - {-1}:
                self.check(lambda: effect * times, reference.effect_times((taken, left), times))

    def test_times_that_take_or_leave_more(self):
        grow, shrink, both = Effect(0, (("lit", 1),)), Effect(1, ()), Effect(3, (("in", 1), ("in", 2)))
        for times in (*range(98, 104), 10 ** 6, MOST - 1, MOST):
            self.check(lambda: grow * times, (0, (("lit", 1),) * times) if times < 104 else (0, (0,) * 101))
            self.check(lambda: shrink * times, (times, ()))
            left = (("in", 99), ("in", 100)) if times % 2 else (("in", 100), ("in", 99))
            if times < 104:
                self.check(lambda: both * times, reference.effect_of_effects([(both.taken, both.left)] * times))
            else:
                self.check(lambda: both * times, (times, left))
        self.check(lambda: Effect(100, ()) * 1, (100, ()))
        self.check(lambda: Effect(100, ()) * 2, (200, ()))
        self.check(lambda: Effect(51, (("lit", 1),)) * 2, (101, (("lit", 1),)))
        self.check(lambda: Effect(50, (("lit", 1),)) * 2, (99, (("lit", 1),)))
        self.check(lambda: Effect(1, (("in", 0),) * 2) * 99, (1, (("in", 0),) * 100))
        self.check(lambda: Effect(1, (("in", 0),) * 2) * 100, (1, (("in", 0),) * 101))
        self.check(lambda: Effect(2, (("in", 0), ("lit", 4), ("in", 1))) * 98,
                   reference.effect_of_effects([(2, (("in", 0), ("lit", 4), ("in", 1)))] * 98))

    def test_times_of_times(self):
        rng = random.Random(52)
        for turn in range(150):
            effect = Effect(*makers.pair(rng, rng.choice([2, 4, 8, 30]), True))
            first, second = rng.randint(0, 10 ** 15), rng.randint(0, 10 ** 15)
            self.assertTrue((effect * first) * second == effect * (first * second))
            self.assertTrue(effect * first + effect * second == effect * (first + second))
        self.assertTrue(Effect(1, ()) * 10 * 10 == Effect(100, ()))
        self.assertTrue(Effect(1, ()) * 0 * MOST == Effect(0, ()))


if __name__ == "__main__":
    unittest.main()
