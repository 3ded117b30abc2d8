"""[2], [10], section 8: cell_after, first_time and settles."""

import itertools
import math
import random
import unittest

from stackworks.effects import Effect, effect_of
from stackworks.errors import InvalidDepth, InvalidEffect, InvalidSource, InvalidTimes, NotBalanced
from stackworks.powers import cell_after, first_time, settles
from stackworks.programs import Program
from tests import makers, reference
from tests.test_effect_errors import NO_NUMBERS, WRONG_EFFECTS, WRONG_SOURCES

MOST = 10 ** 30
WRONG_TIMES = [*NO_NUMBERS, -1, -MOST, MOST + 1, 10 ** 399, "1"]
WRONG_DEPTHS = [*NO_NUMBERS, -1, -MOST, -10 ** 399]


def ring_effect(lengths, rng, waste=0):
    """Return a balanced effect with rings of these lengths, and some cells that only lead to them."""
    order = list(range(sum(lengths) + waste))
    rng.shuffle(order)
    left, start = {}, 0
    for length in lengths:
        ring = order[start:start + length]
        for at, depth in enumerate(ring):
            left[depth] = ("in", ring[(at + 1) % length])
        start += length
    for at in range(start, len(order)):
        left[order[at]] = ("in", order[rng.randrange(at)]) if rng.random() < 0.9 or at == 0 else ("lit", at)
    return Effect(len(order), tuple(left[depth] for depth in range(len(order) - 1, -1, -1)))


def settled(taken, left):
    """Return tail and period of a balanced effect by performing it until the cells come again."""
    cells, seen = tuple(reference.marks(taken)), {}
    while cells not in seen:
        seen[cells] = len(seen)
        cells = tuple(reference.moved(taken, left, list(cells)))
    return seen[cells], len(seen) - seen[cells]


class PowersCase(unittest.TestCase):
    def fails(self, error, call):
        with self.assertRaises(error) as caught:
            call()
        self.assertIs(type(caught.exception), error)


class CellAfterTest(PowersCase):
    def test_few_times(self):
        rng = random.Random(131)
        for turn in range(600):
            taken, left = makers.pair(rng, rng.choice([1, 2, 4, 9, 30, 100]), turn % 3 == 0)
            effect = Effect(taken, left)
            for depth in {0, 1, len(left) - 1, len(left), taken, rng.randint(0, 130), rng.randint(0, 12)} - {-1}:
                found = reference.back(taken, left, depth, 40)
                for times in (*range(6), rng.randint(0, 40), 40):
                    self.assertEqual(cell_after(effect, times, depth), found[times])

    def test_against_the_power_of_the_effect(self):
        rng = random.Random(132)
        for turn in range(300):
            taken, left = makers.pair(rng, rng.choice([2, 4, 9, 40, 100]), True)
            times = rng.choice([99, 100, 101, MOST, MOST - 1, rng.randint(0, MOST)])
            effect = Effect(taken, left)
            power = effect * times
            for depth in range(taken + 2):
                self.assertEqual(cell_after(effect, times, depth), power.source(depth))

    def test_many_times_through_rings_and_straight_ways(self):
        rng = random.Random(133)
        for turn in range(400):
            kind = turn % 3
            taken, left = makers.pair(rng, rng.choice([2, 4, 9, 30]), kind == 0)
            effect, growth = Effect(taken, left), len(left) - taken
            depth = rng.choice([rng.randint(0, 40), rng.randint(0, 40), rng.randint(0, 10 ** 35)])
            times = rng.choice([MOST, MOST - 1, rng.randint(0, MOST), rng.randint(100, 1000)])
            # The cells far below come near in equal steps; the rest of the way is short, or a ring.
            far = max(0, min(times, (depth - len(left)) // growth)) if growth > 0 and depth > len(left) else 0
            found = self.followed(taken, left, depth - growth * far, times - far)
            self.assertEqual(cell_after(effect, times, depth), found)

    def followed(self, taken, left, depth, times):
        """Follow a cell back from near; a ring is found by going round it once, a straight way by its start."""
        way, growth = reference.back(taken, left, depth, min(times, 300)), len(left) - taken
        if times <= 300 or way[-1][0] == "lit":
            return way[-1]
        if way[-1][1] >= len(left):
            return ("in", way[-1][1] - growth * (times - 300))
        start = max(at for at in range(300) if way[at] == way[-1])
        return way[start + (times - start) % (300 - start)]

    def test_by_hand(self):
        turn, drop, push, tour = [effect_of(Program(text)) for text in ("r2", "d", "3", "1 ( r2 )4 d")]
        table = [
            (turn, 0, 0, ("in", 0)), (turn, 1, 0, ("in", 2)), (turn, 2, 0, ("in", 1)), (turn, 3, 0, ("in", 0)),
            (turn, MOST, 3, ("in", 3)), (turn, MOST, 10 ** 399, ("in", 10 ** 399)), (drop, 0, 9, ("in", 9)),
            (drop, MOST, MOST, ("in", 2 * MOST)), (push, MOST, MOST - 1, ("lit", 3)), (push, MOST, MOST, ("in", 0)),
            (push, MOST, 10 ** 399, ("in", 10 ** 399 - MOST)), (push, 0, 0, ("in", 0)), (tour, 1, 0, ("lit", 1)),
            (tour, 1, 1, ("in", 0)), (tour, 2, 1, ("lit", 1)), (tour, MOST, 2, ("in", 2)),
            (Effect(100, ()), MOST, 0, ("in", 100 * MOST)), (Effect(1, (("in", 0),) * 100), MOST, 10 ** 32, ("in", 10 ** 30)),
            (Effect(0, ()), MOST, 5, ("in", 5)),
        ]
        for effect, times, depth, source in table:
            self.assertEqual(cell_after(effect, times, depth), source)

    def test_times_of_times(self):
        rng = random.Random(134)
        for turn in range(300):
            effect = Effect(*makers.pair(rng, rng.choice([2, 5, 12])))
            first, second = rng.randint(0, MOST // 2), rng.choice([rng.randint(0, 50), rng.randint(0, MOST // 2)])
            depth = rng.choice([rng.randint(0, 20), rng.randint(0, MOST)])
            kind, number = cell_after(effect, second, depth)
            found = cell_after(effect, first, number) if kind == "in" else (kind, number)
            self.assertEqual(cell_after(effect, first + second, depth), found)


class FirstTimeTest(PowersCase):
    def check(self, effect, depth, source, most=400):
        """Compare the first time with the way back, of which so much is long enough."""
        way = reference.back(effect.taken, effect.left, depth, most)
        self.assertEqual(first_time(effect, depth, source), way.index(source) if source in way else None)

    def test_small_effects(self):
        rng = random.Random(135)
        for turn in range(500):
            effect = Effect(*makers.pair(rng, rng.choice([1, 2, 3, 6, 12]), turn % 3 == 0))
            depth = rng.choice([rng.randint(0, 14), rng.randint(0, 60)])
            way = reference.back(effect.taken, effect.left, depth, 400)
            for source in [rng.choice(way[:60]), way[0], way[1], way[2], ("in", rng.randint(0, 30)),
                           ("lit", rng.randint(-1, 1)), ("lit", way[-1][1] if way[-1][0] == "lit" else 5)]:
                self.check(effect, depth, source)

    def test_all_sources_of_tiny_effects(self):
        sources = [("in", 0), ("in", 1), ("lit", 0), ("lit", 1)]
        for taken, count in itertools.product(range(3), range(4)):
            for left in itertools.product(sources, repeat=count):
                if all(kind == "lit" or number < taken for kind, number in left):
                    effect = Effect(taken, left)
                    for depth in range(5):
                        for source in sources + [("in", 2), ("in", 3), ("in", 7)]:
                            self.check(effect, depth, source, 30)

    def test_late_sources(self):
        rng = random.Random(136)
        effect = ring_effect([97], rng)
        for depth in range(0, 97, 9):
            for other in range(0, 99, 7):
                self.check(effect, depth, ("in", other))
        ring = Effect(100, tuple(reference.marks(100)[1:]) + (("in", 99),))
        self.assertEqual(first_time(ring, 0, ("in", 1)), 99)
        shift = Effect(100, (("lit", 3),) + tuple(reference.marks(100)[:-1]))
        self.assertEqual([first_time(shift, depth, ("lit", 3)) for depth in (0, 50, 99, 100)], [100, 50, 1, None])
        push, drop = effect_of(Program("3")), effect_of(Program("d"))
        self.assertEqual(first_time(push, MOST, ("in", 0)), MOST)
        self.assertEqual(first_time(push, 10 ** 399, ("lit", 3)), 10 ** 399 + 1)
        self.assertIsNone(first_time(push, 10 ** 399, ("in", 10 ** 399 + 1)))
        self.assertIsNone(first_time(push, 10 ** 399, ("lit", 4)))
        self.assertEqual(first_time(drop, 5, ("in", 10 ** 399)), 10 ** 399 - 5)
        self.assertIsNone(first_time(drop, 5, ("in", 4)))
        many = Effect(2, (("in", 1), ("in", 0), ("lit", 9), ("in", 1), ("in", 0)))
        self.assertEqual(first_time(many, 3 * MOST + 7, ("in", 7)), MOST)
        self.assertIsNone(first_time(many, 3 * MOST + 7, ("in", 8)))
        self.assertEqual(first_time(many, 3 * MOST + 2, ("lit", 9)), MOST + 1)
        self.assertEqual(first_time(many, 3 * MOST + 3, ("in", 0)), MOST + 1)
        fall = Effect(5, (("in", 4), ("in", 3), ("lit", 6)))
        self.assertEqual(first_time(fall, 1, ("in", 3 + 2 * MOST)), MOST + 1)
        self.assertIsNone(first_time(fall, 1, ("in", 4 + 2 * MOST)))

    def test_against_cell_after(self):
        rng = random.Random(137)
        for turn in range(500):
            effect = Effect(*makers.pair(rng, rng.choice([2, 4, 9, 100]), turn % 3 == 0))
            depth = rng.choice([rng.randint(0, 40), rng.randint(0, 10 ** 35)])
            times = rng.choice([0, 1, rng.randint(0, 300), rng.randint(0, MOST)])
            source = cell_after(effect, times, depth)
            found = first_time(effect, depth, source)
            self.assertLessEqual(found, times)
            self.assertEqual(cell_after(effect, found, depth), source)
            if found > 0:
                self.assertNotEqual(cell_after(effect, found - 1, depth), source)

    def test_untouched_cells(self):
        for effect in (Effect(0, ()), effect_of(Program("r2"))):
            for depth in (3, 4, 100, MOST, 10 ** 399):
                self.assertEqual(first_time(effect, depth, ("in", depth)), 0)
                self.assertIsNone(first_time(effect, depth, ("in", depth + 1)))
                self.assertIsNone(first_time(effect, depth, ("in", 0)))
                self.assertIsNone(first_time(effect, depth, ("lit", depth) if depth <= MOST else ("lit", 0)))


class SettlesTest(PowersCase):
    def test_small_effects(self):
        rng = random.Random(138)
        for turn in range(600):
            effect = Effect(*makers.pair(rng, rng.choice([1, 2, 3, 6, 12, 40]), True))
            self.assertEqual(settles(effect), settled(effect.taken, effect.left))

    def test_rings(self):
        rng = random.Random(139)
        for lengths in ([2, 3], [2, 3, 5, 7], [2, 3, 5, 7, 11, 13, 17, 19, 23], [100], [97, 3], [1] * 20, [4, 6, 9],
                        [3, 3, 3, 4], [2, 4, 8, 16, 32], [1, 99]):
            for waste in (0, 1, 100 - sum(lengths)):
                if sum(lengths) + waste > 100:
                    continue
                effect = ring_effect(lengths, rng, waste)
                tail, period = settles(effect)
                self.assertEqual(period, math.lcm(*lengths))
                self.assertTrue(effect * tail == effect * (tail + period))
                if tail:
                    self.assertFalse(effect * (tail - 1) == effect * (tail - 1 + period))
                for prime in {2, 3, 5, 7, 11, 13, 17, 19, 23, 97}:
                    if period % prime == 0:
                        self.assertFalse(effect * tail == effect * (tail + period // prime))
        self.assertEqual(settles(ring_effect([2, 3, 5, 7, 11, 13, 17, 19, 23], rng)), (0, 223092870))

    def test_by_hand(self):
        for text, expected in (("", (0, 1)), ("r1", (0, 2)), ("r99", (0, 100)), ("d 7", (1, 1)), ("d p0", (1, 1)),
                               ("( r1 )2", (0, 1)), ("d d 1 2", (1, 1)), ("7 r2 d", (2, 1)), ("7 r9 d", (9, 1)),
                               ("r1 r2 d p1", (1, 1)), ("r1 p1 r3 d r1", (1, 2))):
            effect = effect_of(Program(text))
            self.assertEqual(settles(effect), expected, text)
            self.assertEqual(settles(effect), settled(effect.taken, effect.left))
        shift = Effect(100, (("lit", 3),) + tuple(reference.marks(100)[:-1]))
        self.assertEqual(settles(shift), (100, 1))
        copies = Effect(100, (("in", 99),) + tuple(reference.marks(100)[:-1]))
        self.assertEqual(settles(copies), (99, 1))

    def test_not_balanced(self):
        for text in ("1", "d", "p0", "r1 d d", "( 1 )100"):
            self.fails(NotBalanced, lambda: settles(effect_of(Program(text))))


class WrongArgumentsTest(PowersCase):
    def test_effects(self):
        for effect in WRONG_EFFECTS:
            for value in (0, -1, None):
                self.fails(InvalidEffect, lambda: cell_after(effect, value, value))
                self.fails(InvalidEffect, lambda: first_time(effect, value, value))
                self.fails(InvalidEffect, lambda: first_time(effect, value, ("in", 0)))
                self.fails(InvalidEffect, lambda: settles(effect))

    def test_times(self):
        for times in WRONG_TIMES:
            for effect in (Effect(0, ()), effect_of(Program("r3")), effect_of(Program("1"))):
                for depth in (0, 7, None, -1):
                    self.fails(InvalidTimes, lambda: cell_after(effect, times, depth))

    def test_depths(self):
        for depth in WRONG_DEPTHS:
            for effect in (Effect(0, ()), effect_of(Program("r3")), effect_of(Program("1"))):
                self.fails(InvalidDepth, lambda: cell_after(effect, 0, depth))
                self.fails(InvalidDepth, lambda: cell_after(effect, MOST, depth))
                for source in (("in", 0), ("in", -1), None):
                    self.fails(InvalidDepth, lambda: first_time(effect, depth, source))

    def test_sources(self):
        valid = [("in", 10 ** 399)]
        for source in WRONG_SOURCES:
            if source not in valid:
                for effect in (Effect(0, ()), effect_of(Program("r3")), effect_of(Program("1"))):
                    self.fails(InvalidSource, lambda: first_time(effect, 0, source))
                    self.fails(InvalidSource, lambda: first_time(effect, 10 ** 399, source))
        for source in (("in", 0), ("in", 10 ** 399), ("lit", MOST), ("lit", -MOST), ("lit", 0)):
            first_time(effect_of(Program("r3")), 0, source)

    def test_effects_do_not_change(self):
        effect = effect_of(Program("r3 1"))
        shown = makers.shown(effect)
        cell_after(effect, MOST, 3), first_time(effect, 3, ("in", 1))
        self.fails(NotBalanced, lambda: settles(effect))
        self.assertEqual(makers.shown(effect), shown)


if __name__ == "__main__":
    unittest.main()
