"""[4], [6], [9], section 4: word_at, words_from, count_word and written."""

import inspect
import itertools
import random
import unittest

from stackworks.errors import InvalidProgram, InvalidStep, InvalidWord, NotPlain, TooLarge
from stackworks.programs import Program, count_word, word_at, words_from, written
from tests import makers, reference

MOST = 10 ** 30
WRONG_PROGRAMS = [*reference.STRANGE, "r1", "", 0, ("r1",), Program]
WRONG_WORDS = [*reference.STRANGE, 0, 1, "", "x", "r0", "p99", "r100", "-0", "01", "(", ")2", "{", "|", "}", "r1 d",
               "D", str(MOST + 1), "\u0663", " d", ("d",), Program("d")]


def word_of(row, index):
    """Return the instruction of a step by the lengths of the parts before it."""
    for part in row:
        length = reference.steps([part])
        if index < length:
            return part if isinstance(part, str) else word_of(part[1], index % reference.steps(part[1]))
        index -= length
    raise IndexError(index)


def count_of(row, word):
    return sum((part == word) if isinstance(part, str) else part[2] * count_of(part[1], word) for part in row)


def small_programs(seed, count):
    rng = random.Random(seed)
    while count > 0:
        text = makers.text(rng, rng.randint(0, 30), rng.randint(0, 4), False, (2, 3, 5), 5)
        if reference.steps(reference.read(text)) <= 1000:
            count -= 1
            yield text


class StepsTest(unittest.TestCase):
    def test_small_programs(self):
        for text in small_programs(31, 250):
            program, words = Program(text), reference.all_words(reference.read(text))
            self.assertEqual(program.steps, len(words))
            self.assertEqual(written(program), tuple(words))
            self.assertEqual([word_at(program, index) for index in range(len(words))], words)
            for word in {*words, "r1", "p0", "d", "7", "-7"}:
                self.assertEqual(count_word(program, word), words.count(word))
            for start in {0, 1, 2, len(words) // 2, len(words) - 1, len(words)} & set(range(len(words) + 1)):
                self.assertEqual(list(words_from(program, start)), words[start:])

    def test_from_every_step(self):
        for text in ("", "r1", "( 1 )9 d", "( ( r1 )2 d 1 )3 r2", "r2 ( ( ( p0 )2 d d )2 r1 )2 ( d 1 )2"):
            words = reference.all_words(reference.read(text))
            for start in range(len(words) + 1):
                self.assertEqual(list(words_from(Program(text), start)), words[start:])

    def test_far_programs(self):
        rng = random.Random(32)
        for text in makers.far_texts(33, 120):
            program, row = Program(text), reference.read(text)
            steps = reference.steps(row)
            starts = [0, 1, steps - 1, steps - 2, steps // 2, *[rng.randrange(steps) for turn in range(6)]]
            for start in starts:
                self.assertEqual(word_at(program, start), word_of(row, start))
                some = list(itertools.islice(words_from(program, start), 40))
                self.assertEqual(some, [word_of(row, at) for at in range(start, min(steps, start + 40))])
            for word in {word for word in text.split(" ") if reference.is_instruction(word)} | {"r98", "-3"}:
                self.assertEqual(count_word(program, word), count_of(row, word))

    def test_more_than_ten_to_the_three_hundred_steps(self):
        program = Program("( " * 11 + "r2 p0 d" + f" ){MOST}" * 11)
        self.assertGreater(program.steps, 10 ** 300)
        self.assertEqual(word_at(program, 10 ** 300), ("r2", "p0", "d")[10 ** 300 % 3])
        self.assertEqual(list(words_from(program, program.steps - 2)), ["p0", "d"])
        self.assertEqual(list(words_from(program, program.steps)), [])
        self.assertEqual(count_word(program, "p0"), program.steps // 3)

    def test_across_the_end_of_long_repeats(self):
        text = f"( ( r1 ){MOST} r2 ){MOST} r3"
        found = list(itertools.islice(words_from(Program(text), MOST - 2), 5))
        self.assertEqual(found, ["r1", "r1", "r2", "r1", "r1"])
        end = MOST * (MOST + 1)
        self.assertEqual(list(words_from(Program(text), end - 3)), ["r1", "r1", "r2", "r3"])

    def test_two_at_a_time(self):
        program = Program(f"( r1 r2 ( p0 d ){MOST} ){MOST}")
        expected = [word_of(reference.read(program.text), at) for at in range(30)]
        one, other = words_from(program, 0), words_from(program, 3)
        found, behind = [], []
        for turn in range(12):
            found.append(next(one))
            if turn % 2:
                behind += [next(other), next(other)]
        self.assertEqual((found, behind), (expected[:12], expected[3:15]))
        self.assertEqual(list(itertools.islice(words_from(program, 0), 30)), expected)

    def test_words_from_is_a_generator(self):
        self.assertTrue(inspect.isgenerator(words_from(Program("r1"), 0)))
        self.assertTrue(inspect.isgenerator(words_from("r1", "x")))

    def test_the_empty_program(self):
        program = Program("")
        self.assertEqual((written(program), list(words_from(program, 0)), count_word(program, "d")), ((), [], 0))
        with self.assertRaises(InvalidStep):
            word_at(program, 0)

    def test_written_stops_at_1000_steps(self):
        for text in ("( r1 )1000", " ".join(["r1"] * 1000), "( ( r1 )99 d 1 )9 ( 1 d )45 r1", "( r1 )999 d"):
            program = Program(text)
            if program.steps <= 1000:
                self.assertEqual(len(written(program)), program.steps)
        self.assertEqual(len(written(Program("( r1 )1000"))), 1000)
        self.assertEqual(len(written(Program("( r1 r2 )500"))), 1000)
        for text in ("( r1 )1001", "( r1 r2 )500 d", f"( r1 ){MOST}", "( ( r1 )91 )11"):
            with self.assertRaises(TooLarge) as caught:
                written(Program(text))
            self.assertEqual(caught.exception.limit, 1000)


class ErrorsOfStepsTest(unittest.TestCase):
    def fails(self, error, call):
        with self.assertRaises(error) as caught:
            call()
        self.assertIs(type(caught.exception), error)

    def first(self, program, index):
        """Return the first instruction; no error is raised before it is requested."""
        words = words_from(program, index)
        return next(words)

    def test_no_program(self):
        for value in WRONG_PROGRAMS:
            for other in (0, -1, "x", None):
                self.fails(InvalidProgram, lambda: word_at(value, other))
                self.fails(InvalidProgram, lambda: self.first(value, other))
                self.fails(InvalidProgram, lambda: count_word(value, other))
            self.fails(InvalidProgram, lambda: written(value))

    def test_not_plain(self):
        for text in ("{ | }", "( { r1 | } )2", f"( r1 ){MOST} " + "{ r1 | }"):
            for other in (0, -1, "x", None, "r1"):
                self.fails(NotPlain, lambda: word_at(Program(text), other))
                self.fails(NotPlain, lambda: self.first(Program(text), other))
                self.fails(NotPlain, lambda: count_word(Program(text), other))
            self.fails(NotPlain, lambda: written(Program(text)))

    def test_steps_that_are_none(self):
        for text in ("", "r1", "( r1 d 1 )9", f"( r1 ){MOST}"):
            program = Program(text)
            for value in [*reference.STRANGE, "0", "", (0,), -1, -MOST, program.steps + 1, 10 ** 399, program]:
                self.fails(InvalidStep, lambda: word_at(program, value))
                self.fails(InvalidStep, lambda: self.first(program, value))
            self.fails(InvalidStep, lambda: word_at(program, program.steps))
            self.assertEqual(list(words_from(program, program.steps)), [])

    def test_words_that_are_none(self):
        for value in WRONG_WORDS:
            for text in ("", "r1 1", "( d 1 )2", f"( r1 ){MOST}"):
                self.fails(InvalidWord, lambda: count_word(Program(text), value))
        for word in ("0", "-1", str(MOST), str(-MOST), "p0", "p98", "r1", "r99", "d"):
            self.assertEqual(count_word(Program(word) * 1, word), 1)

    def test_programs_do_not_change(self):
        program = Program("( r1 ( p0 d )3 )2")
        values = makers.shown(program)
        list(words_from(program, 3)), written(program), word_at(program, 5), count_word(program, "d")
        self.assertEqual(makers.shown(program), values)


if __name__ == "__main__":
    unittest.main()
