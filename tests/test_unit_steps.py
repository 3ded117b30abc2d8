"""[10], [13], section 5: unit_steps and unit_effect, without writing the lines out; errors of names."""

import random
import unittest

from stackworks.effects import Effect, effect_of
from stackworks.errors import InvalidName, InvalidUnits, NotPlain, StackError, TooHigh
from stackworks.programs import Program
from stackworks.units import unit, unit_effect, unit_names, unit_steps
from tests import makers, reference

MOST = 10 ** 30
WRONG_NAMES = [*reference.STRANGE, "", "a", "aaa", "aa:", "r1", "zz", " aa", "AA", 0, 1, ("aa",), ["aa"], b"aa",
               Program("r1"), Effect(0, ()), "aa\n", "aa bb", 10 ** 399]


class UnitStepsTest(unittest.TestCase):
    def fails(self, error, call, **fields):
        with self.assertRaises(error) as caught:
            call()
        self.assertIs(type(caught.exception), error)
        self.assertEqual({name: getattr(caught.exception, name) for name in fields}, fields)

    def fails_both(self, error, text, name, **fields):
        self.fails(error, lambda: unit_steps(text, name), **fields)
        self.fails(error, lambda: unit_effect(text, name), **fields)

    def test_against_the_written_program(self):
        rng, seen = random.Random(111), 0
        while seen < 600:
            text = makers.source_text(rng, rng.randint(2, 12), rng.randint(1, 9), 3, False, (2, 3, MOST),
                                      rng.choice([1, 3, 8]))
            for name in unit_names(text):
                try:
                    program = unit(text, name)
                except StackError:
                    continue
                seen += 1
                self.assertEqual(unit_steps(text, name), program.steps)
                effect = unit_effect(text, name)
                self.assertEqual((effect.taken, effect.left), reference.effect_of_row(reference.read(program.text)))

    def test_errors_against_the_written_program(self):
        rng = random.Random(112)
        for turn in range(400):
            text = makers.source_text(rng, rng.randint(2, 9), rng.randint(1, 9), 3, True, (2, 3), rng.choice([2, 60]))
            source = reference.Source(text)
            for number, name in enumerate(source.names):
                words = source.written(number)
                if len(words) > 1000:
                    continue
                need, rise, growth = source.sizes[name]
                if "{" in words:
                    self.fails_both(NotPlain, text, name)
                elif need + rise > 100:
                    self.fails_both(TooHigh, text, name, limit=100)
                else:
                    self.assertEqual(unit_steps(text, name),
                                     reference.steps(reference.row_of(words, 0, 0, "whole")[0]))

    def test_repeated_lines(self):
        rng = random.Random(113)
        for turn in range(150):
            body = makers.with_growth(rng, makers.some_words(rng, rng.randint(1, 12), 2, False, (2, 3), 4), 0)
            first = " ".join(body) or "r1"
            if reference.is_high(first):
                continue
            lines, steps, expected = [f"aa: {first}"], Program(first).steps, effect_of(Program(first))
            for at in range(1, 19):
                times = rng.choice([2, 3, MOST, MOST - 1, rng.randint(2, MOST)])
                name, before = f"{chr(97 + at)}x", lines[-1].split(":")[0]
                more = rng.choice(["", " r1", " r2 r3", " 5 d"])
                lines.append(f"{name}: ( {before} ){times}{more}")
                text = "\n".join(lines) + "\n"
                steps = steps * times + len(more.split())
                expected = expected * times + effect_of(Program(more.strip()))
                self.assertEqual(unit_steps(text, name), steps)
                self.assertTrue(unit_effect(text, name) == expected)

    def test_lines_that_double_and_nest(self):
        for first in ("r1", "r2", "r3 r4 r2", "p0 d 7 r2 d"):
            steps, effect, lines = len(first.split()), effect_of(Program(first)), [f"aa: {first}"]
            for at in range(1, 19):
                name, before = f"{chr(97 + at)}x", lines[-1].split(":")[0]
                lines.append(f"{name}: " + f"( {before} " * 12 + before + f" ){MOST}" * 12)
                # The line before stands once in front of each bracket's end, and once more in the innermost one.
                all_steps, all_effect = steps, effect
                for level in range(12):
                    all_steps, all_effect = (steps + all_steps) * MOST, (effect + all_effect) * MOST
                steps, effect = all_steps, all_effect
                text = "\n".join(lines) + "\n"
                self.assertEqual(unit_steps(text, name), steps)
                self.assertTrue(unit_effect(text, name) == effect)

    def test_names_beside_names(self):
        text = "aa: r2\nbb: aa ( aa 7 d )5 aa\ncc: bb aa bb\ndd: ( cc r4 )100\n"
        self.assertEqual([unit_steps(text, name) for name in ("aa", "bb", "cc", "dd")], [1, 17, 35, 3600])
        row = reference.read(unit(text, "dd").text)
        effect = unit_effect(text, "dd")
        self.assertEqual((effect.taken, effect.left), reference.effect_of_row(row))

    def test_growing_lines(self):
        text = "aa: 1\nbb: ( aa )50\ncc: bb bb\nee: ( aa p0 )50\nff: d d\ngg: ( ff )50\n"
        for name, taken, left in (("bb", 0, (("lit", 1),) * 50), ("cc", 0, (("lit", 1),) * 100),
                                  ("ee", 0, (("lit", 1),) * 100), ("gg", 100, ())):
            effect = unit_effect(text, name)
            self.assertEqual((effect.taken, effect.left), (taken, left))
        for more in ("cc aa", "( cc )2", "ee r1 1", "gg ff", "ff gg", "( gg )2", f"( aa ){MOST}", "gg r1"):
            self.fails_both(TooHigh, text + f"hh: {more}\n", "hh", limit=100)
        for more, steps in (("gg cc", 200), ("cc gg", 200), ("cc d", 101), (f"( aa aa ff ){MOST}", 4 * MOST)):
            self.assertEqual(unit_steps(text + f"hh: {more}\n", "hh"), steps)
            self.assertTrue(unit_effect(text + f"hh: {more}\n", "hh") == effect_of(unit(text + f"hh: {more}\n", "hh")))

    def test_names(self):
        text = "aa: r1\nbb: { aa | }\ncc: ( 1 )101\nr1"
        for name in WRONG_NAMES:
            for call in (unit, unit_steps, unit_effect):
                self.fails(InvalidName, lambda: call(text, name))
                self.fails(InvalidName, lambda: call("r1", name))
                self.fails(InvalidUnits, lambda: call("r1\n", name), line=0, index=0)
                self.fails(InvalidUnits, lambda: call(None, name), line=None, index=None)

    def test_the_order_of_the_errors(self):
        text = "aa: 1\nbb: { aa | 2 }\ncc: ( bb )500\nee: ( aa )500\nff: ee bb\n"
        self.fails_both(NotPlain, text, "bb")
        self.fails_both(NotPlain, text, "cc")
        self.fails_both(NotPlain, text, "ff")
        self.fails_both(TooHigh, text, "ee", limit=100)
        self.fails_both(InvalidName, text, "gg")
        self.fails_both(InvalidUnits, text + "x", "gg", line=5, index=0)
        self.assertEqual(unit_steps(text, "aa"), 1)
        self.assertEqual(unit_effect(text, "aa").left, (("lit", 1),))


if __name__ == "__main__":
    unittest.main()
