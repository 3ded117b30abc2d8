"""[3], [4], [6] to [9], section 4: the values of programs, their equality, + and *."""

import itertools
import random
import unittest
from unittest import mock

from stackworks.effects import effect_of
from stackworks.errors import InvalidProgram, InvalidTimes, TooDeep, TooHigh, TooLarge
from stackworks.programs import Program
from tests import makers, reference

MOST = 10 ** 30
WRONG_TIMES = [*reference.STRANGE, -1, -MOST, MOST + 1, 10 ** 300, "2", "", (2,), Program("r1")]
WRONG_PROGRAMS = [*reference.STRANGE, "r1", "", 0, 2, (), ("r1",), Program]


def values_of(program):
    return (program.text, program.need, program.rise, program.growth, program.is_plain, program.steps, len(program))


def some_texts(seed, count):
    rng = random.Random(seed)
    for turn in range(count):
        times = rng.choice([(2, 3), (2, 9, MOST), (MOST, 10 ** 29 + 7)])
        yield makers.text(rng, rng.randint(0, 70), rng.randint(0, 6), turn % 2 == 0, times, rng.choice([2, 5, 30, 70]))
    for deep in range(1, 13):
        yield makers.nested(rng, deep, "r2", (2, MOST))


class ValuesTest(unittest.TestCase):
    def check(self, text):
        program, row = Program(text), reference.read(text)
        words = text.split(" ") if text else []
        plain = reference.is_plain(row)
        expected = (text, *reference.sizes(row), plain, reference.steps(row) if plain else None, len(words))
        self.assertEqual(values_of(program), expected)
        self.assertIs(program.is_plain, plain)
        for word in ["r1", "d", "1", "(", ")2", "{", "|", "}", "", " ", text, "r1 d", "x", *words[:20]]:
            self.assertIs(word in program, word in words)
        return program

    def test_values(self):
        for text in some_texts(21, 900):
            self.check(text)

    def test_values_of_the_empty_program(self):
        self.assertEqual(values_of(Program("")), ("", 0, 0, 0, True, 0, 0))
        self.assertFalse("" in Program(""))

    def test_long_programs(self):
        rng = random.Random(22)
        self.check(" ".join(["r1"] * 1000))
        self.check(" ".join(["(", "r1", f"){MOST}"] * 333 + ["d"]))
        self.check(" ".join(rng.choice(["r1", "r9", "1 d", "p0 d"]) for place in range(500)))

    def test_steps_without_and_with_choices(self):
        self.assertEqual(Program(makers.nested(random.Random(1), 0, "r1", (2,))).steps, 1)
        self.assertEqual((Program("1 d") * MOST * MOST * MOST).steps, 2 * MOST ** 3)
        self.assertIsNone(Program("{ | }").steps)
        self.assertIs(Program("{ | }").is_plain, False)
        self.assertIsNone(Program("( r1 { r1 | } )2").steps)

    def test_any_value_in_program(self):
        program = Program("( 1 d )2 0 d")
        self.assertIs(mock.ANY in program, False)
        for value in [*reference.STRANGE, 0, 1, 2, ("1",), ["1"], b"1", program, "( 1", "1 d", ")", "10", "-1", "01"]:
            self.assertIs(value in program, False)
        for value in ("(", "1", "d", ")2", "0"):
            self.assertIs(value in program, True)

    def test_heights_instruction_by_instruction(self):
        rng, seen = random.Random(23), 0
        while seen < 600:
            text = makers.text(rng, rng.randint(0, 10), 3, True, (2, 3), rng.choice([1, 3, 9]))
            row = reference.read(text)
            if reference.many_ways(row) > 300:
                continue
            seen += 1
            lowest, highest, ends = 0, 0, set()
            for choices, words in reference.ways(row):
                height = 0
                for word in words:
                    lowest = min(lowest, height - reference.needed(word))
                    height += reference.grown(word)
                    highest = max(highest, height)
                ends.add(height)
            program = Program(text)
            self.assertEqual((program.need, program.rise, {program.growth}), (-lowest, highest, ends), text)


class EqualityTest(unittest.TestCase):
    def test_equal_texts(self):
        for text in some_texts(24, 60):
            self.assertTrue(Program(text) == Program(text))
            self.assertFalse(Program(text) != Program(text))

    def test_one_word_differs_or_two_are_exchanged(self):
        rng = random.Random(25)
        for text in some_texts(26, 300):
            words = text.split(" ")
            at, other = rng.randrange(len(words)), rng.randrange(len(words))
            exchanged = list(words)
            exchanged[at], exchanged[other] = words[other], words[at]
            replaced = words[:at] + [rng.choice(["r1", "r2", "p0", "p1", "5", "6"])] + words[at + 1:]
            for changed in (" ".join(exchanged), " ".join(replaced)):
                if changed != text and reference.wrong_word(changed) is None and not reference.is_high(changed):
                    self.assertFalse(Program(text) == Program(changed))
                    self.assertTrue(Program(text) != Program(changed))

    def test_equal_sizes_and_other_words(self):
        texts = ["r1 r2", "r2 r1", "( r2 )2", "r2 r2", "( r2 )3", "r2", "1 d r2", "2 d r2", "{ r2 | }", "{ | r2 }",
                 "-1",
                 "1", "p0", "p0 d", "0 d", "", "{ | }", "( r2 )2 ( r2 )2", "( ( r2 )2 )2"]
        for first, second in itertools.product(texts, texts):
            self.assertIs(Program(first) == Program(second), first == second)

    def test_no_other_value_is_equal(self):
        for text in ("", "r1", "0"):
            self.assertIs(Program(text) == mock.ANY, False)
            for value in [*WRONG_PROGRAMS, text, (text,), [text], effect_of(Program(text))]:
                self.assertIs(Program(text) == value, False)
                self.assertIs(value == Program(text), False)
                self.assertIs(Program(text) != value, True)


class OperatorsTest(unittest.TestCase):
    def same(self, found, text):
        self.assertEqual(values_of(found), values_of(Program(text)))
        self.assertEqual(found.text, text)
        self.assertEqual((found.need, found.rise, found.growth), reference.sizes(reference.read(text)))
        self.assertTrue(found == Program(text))

    def fails(self, error, call, limit=None):
        with self.assertRaises(error) as caught:
            call()
        self.assertIs(type(caught.exception), error)
        if limit is not None:
            self.assertEqual(caught.exception.limit, limit)

    def test_plus(self):
        texts = ["", *some_texts(27, 120)]
        for first, second in zip(texts, texts[1:] + texts[:1]):
            one, other = Program(first), Program(second)
            before = values_of(one), values_of(other)
            text = " ".join([part for part in (first, second) if part])
            if reference.is_high(text):
                self.fails(TooHigh, lambda: one + other, 100)
            else:
                self.same(one + other, text)
            self.assertEqual((values_of(one), values_of(other)), before)
        self.same(Program("") + Program(""), "")
        self.same(Program("r1") + Program("") + Program("d"), "r1 d")

    def test_times(self):
        rng = random.Random(28)
        for text in some_texts(29, 150):
            program = Program(text)
            before = values_of(program)
            for times in (0, 1, 2, 3, rng.randint(4, 200), rng.randint(4, MOST), MOST):
                result = f"( {text} ){times}" if times > 1 and text else text if times else ""
                if result != text and reference.depth(reference.read(text)) == 12 and times:
                    self.fails(TooDeep, lambda: program * times, 12)
                elif reference.is_high(result):
                    self.fails(TooHigh, lambda: program * times, 100)
                else:
                    self.same(program * times, result)
            self.assertEqual(values_of(program), before)

    def test_times_of_the_empty_program(self):
        for times in (0, 1, 2, MOST):
            self.same(Program("") * times, "")

    def test_times_of_times(self):
        self.same(Program("r1") * 2 * 1 * 3, "( ( r1 )2 )3")
        self.same(Program("{ r1 | } d") * 5, "( { r1 | } d )5")

    def test_plus_with_other_values(self):
        for value in WRONG_PROGRAMS:
            for text in ("", "r1", " ".join(["r1"] * 1000)):
                self.fails(InvalidProgram, lambda: Program(text) + value)

    def test_times_with_other_values(self):
        for value in WRONG_TIMES:
            for text in ("", "r1", " ".join(["1 d"] * 500), makers.nested(random.Random(2), 12, "r1", (2,))):
                self.fails(InvalidTimes, lambda: Program(text) * value)

    def test_plus_too_large(self):
        for first, second in itertools.product((490, 500, 510, 999, 1000), (0, 1, 2, 489, 490, 500, 501, 510)):
            one, other = Program(" ".join(["r1"] * first)), Program(" ".join(["r2"] * second))
            if first + second > 1000:
                self.fails(TooLarge, lambda: one + other, 1000)
                self.fails(TooLarge, lambda: other + one, 1000)
            else:
                self.assertEqual(len(one + other), first + second)

    def test_times_too_large(self):
        for count in range(990, 1001):
            program = Program(" ".join(["r1"] * count))
            self.assertEqual(len(program * 0), 0)
            self.assertEqual(len(program * 1), count)
            if count > 998:
                self.fails(TooLarge, lambda: program * 2, 1000)
            else:
                self.assertEqual(len(program * 2), count + 2)

    def test_times_too_deep(self):
        for deep, inner in itertools.product((10, 11, 12), ("r1", "1", "d")):
            for signs in ("( )2", "{ | r1 }"):
                left, *rest = signs.split(" ")
                program = Program(f"{left} " * deep + "r1 " + f"{' '.join(rest)} " * (deep - 1) + " ".join(rest))
                program = program + Program(inner) if inner == "r1" else Program(inner) + program
                self.assertIs(program * 1, program)
                self.assertEqual((program * 0).text, "")
                if deep == 12:
                    self.fails(TooDeep, lambda: program * 2, 12)
                else:
                    self.assertEqual((program * 2).text, f"( {program.text} )2")
        for inner in ("{ | }", "{ r1 | }", "{ | ( r1 )2 }", "{ ( r1 )2 | }", "( r1 )2 r1", "r1 ( r1 )2"):
            inside = reference.depth(reference.read(inner))
            for deep in range(9, 13 - inside):
                text = "( " * deep + inner + " )3" * deep
                if deep + inside == 12:
                    self.fails(TooDeep, lambda: Program(text) * 2, 12)
                else:
                    self.assertEqual((Program(text) * 2).text, f"( {text} )2")
        self.assertEqual(len(Program("{ r1 | } " + "( " * 11 + "r1" + " )2" * 11) * 2), 4 + 23 + 2)

    def test_too_high(self):
        for high in (49, 50, 51, 98, 99, 100):
            for first, second in [("1", "1"), ("d", "d"), ("1", "d"), ("d", "1"), ("1", "r1"), ("1", "p0")]:
                for more in range(0, 100 if second == "p0" else 101, 1 if high > 97 else 7):
                    one = Program(" ".join([first] * high))
                    other = Program(" ".join([second] * more))
                    text = " ".join([first] * high + [second] * more)
                    if reference.is_high(text):
                        self.fails(TooHigh, lambda: one + other, 100)
                    else:
                        self.same(one + other, text)
        for text, most in [("1", 100), ("d", 100), ("1 1", 50), ("r1 1", 98), ("d d 1", 99), ("p0 p0 d", 98)]:
            self.assertEqual((Program(text) * most).text, f"( {text} ){most}")
            self.fails(TooHigh, lambda: Program(text) * (most + 1), 100)
            self.fails(TooHigh, lambda: Program(text) * MOST, 100)

    def test_order_of_errors(self):
        long = Program(" ".join(["1"] * 60 + ["r1"] * 940))
        self.fails(TooLarge, lambda: long + long, 1000)
        self.fails(TooLarge, lambda: long * 2, 1000)
        deep = "( " * 12 + "r1" + " )2" * 12
        self.fails(TooDeep, lambda: Program("( 1 )60 " + deep) * 2, 12)
        self.fails(TooLarge, lambda: Program(" ".join([deep] + ["1"] * 60 + ["r1"] * 915)) * 2, 1000)
        self.fails(TooHigh, lambda: Program("( 1 )60") * 2, 100)
        self.fails(InvalidTimes, lambda: long * -1)
        self.fails(InvalidProgram, lambda: long + long.text)


if __name__ == "__main__":
    unittest.main()
