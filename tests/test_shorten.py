"""[2], [9], [11], section 14: shortest, shorten and saved."""

import random

from stackworks.effects import effect_of, same_effect
from stackworks.errors import InvalidProgram, NotPlain
from stackworks.programs import Program
from stackworks.shorten import saved, shorten, shortest
from stackworks.undoing import fewest_for
from tests import makers, reference
from tests.cases import MOST, Case, programs, small_texts
from tests.fewest import by_formula


def is_symbol(source):
    return source[0] == "in"


def fewest_words(words):
    """Return the fewest steps with the effect of instructions, by the formula of section 11."""
    taken, left = reference.effect_of_row(list(words))
    return by_formula(tuple(reference.marks(taken)), left, is_symbol)


def shape(row):
    """Return a row as a list, the runs in it as tuples ("run", effect, words)."""
    found, run = [], []
    for part in row + [None]:
        if isinstance(part, str):
            run.append(part)
            continue
        if run:
            found.append(("run", reference.effect_of_row(run), tuple(run)))
            run = []
        if part is not None:
            found.append((part[0], *(shape(one) if isinstance(one, list) else one for one in part[1:])))
    return found


def expected_shape(row):
    """Return the row as it must be shortened, the words of a run as they stand if it cannot be shorter, else None."""
    kept, run = [], []
    for part in row + [None]:
        if isinstance(part, str):
            run.append(part)
            continue
        inner = None
        if part is not None:
            inner = (part[0], *(expected_shape(one) if isinstance(one, list) else one for one in part[1:]))
            if not any(isinstance(one, list) and one for one in inner[1:]):
                continue
        if run:
            fewest = fewest_words(run)
            effect = reference.effect_of_row(run)
            if fewest == len(run):
                kept.append(("run", effect, tuple(run)))
            elif fewest:
                kept.append(("run", effect, fewest))
            run = []
        if inner is not None:
            kept.append(inner)
    return kept


class ShortenTest(Case):
    def check_shape(self, found, expected, text):
        self.assertEqual(len(found), len(expected), text)
        for one, other in zip(found, expected):
            self.assertEqual(one[0], other[0], text)
            if one[0] == "run":
                self.assertEqual(one[1], other[1], text)
                self.assertEqual(one[2] if isinstance(other[2], tuple) else len(one[2]), other[2], text)
                continue
            for inside, wanted in zip(one[1:], other[1:]):
                if isinstance(inside, list):
                    self.check_shape(inside, wanted, text)
                else:
                    self.assertEqual(inside, wanted)

    def check_short(self, text):
        program = Program(text)
        short = shorten(program)
        self.assertIsInstance(short, Program)
        row = reference.read(text)
        self.check_shape(shape(reference.read(short.text)), expected_shape(row), text)
        self.assertLessEqual(short.need, program.need)
        self.assertLessEqual(short.rise, program.rise)
        self.assertEqual(short.growth, program.growth)
        self.assertLessEqual(len(short), len(program))
        if program.is_plain:
            self.assertTrue(same_effect(program, short))
            self.assertEqual(saved(program), program.steps - short.steps)
            self.assertGreaterEqual(saved(program), 0)
        self.assertTrue(shorten(short) == short)
        return short

    def test_plain_programs(self):
        for text in small_texts(381, 250, 10 ** 9, length=40):
            self.check_short(text)

    def test_far_programs(self):
        for text in makers.far_texts(382, 60):
            self.check_short(text)

    def test_programs_with_choices(self):
        for text in small_texts(383, 250, 200, True, 20):
            short = self.check_short(text)
            row = reference.read(text)
            effects = {reference.effect_of_row(list(words)) for choices, words in reference.ways(row)}
            behind = {reference.effect_of_row(list(words)) for choices,
                      words in reference.ways(reference.read(short.text))}
            self.assertEqual(behind, effects)

    def test_programs_that_vanish(self):
        rng = random.Random(384)
        for turn in range(150):
            words = []
            for part in range(rng.randint(1, 4)):
                inner = rng.choice(["r1 r1", "p0 d", "5 d", "r2 r2 r2", "( r1 r1 )2", "( r1 )2", "{ r1 r1 | }", "{ | }",
                                    "{ ( p3 d )9 | 1 d }", "r1", "d 5", "p1 d d"])
                words += rng.choice([inner, f"( {inner} ){rng.choice([2, 3])}", f"r1 {inner} r1"]).split(" ")
            text = " ".join(words)
            if reference.wrong_word(text) is None and not reference.is_high(text):
                self.check_short(text)

    def test_by_hand(self):
        table = [
            ("( r1 r1 p0 d 5 )3 r2 r2 r2 r2", "( 5 )3 r2"), ("( r1 r1 )9 d", "d"), ("", ""), ("r1 r1", ""),
            ("( r2 )4", "( r2 )4"), ("( ( r1 r1 )2 )3 r1", "r1"), ("r1 ( p0 d )7 r1", ""),
            ("r1 ( r2 )7 r1", "r1 ( r2 )7 r1"),
            ("{ | }", ""), ("{ r1 r1 | p0 d } d", "d"), ("{ r1 r1 | r1 } d", "{ | r1 } d"), ("r1 { p0 d | } r1", ""),
            ("{ r1 | r1 r1 }", "{ r1 | }"), ("( { | } 5 d )4 d", "d"), ("( ( 5 d r1 )2 ( p0 d )2 )3", "( ( r1 )2 )3"),
            ("( r1 ( p0 d )2 r1 )5 7", "7"), ("5 5 5", "5 5 5"), (f"( ( r3 r3 r3 r3 ){MOST} ){MOST} 1", "1"),
            ("( r1 r1 ( r1 )2 )2", "( ( r1 )2 )2"), ("5 ( p0 d )2 d", ""), ("r1 r1 { 1 | 2 } r1 r1 r1", "{ 1 | 2 } r1"),
            ("p0 r1", "p0"), ("p1 p1", "p1 p1"),
        ]
        for text, expected in table:
            short = self.check_short(text)
            if expected is not None:
                self.assertEqual(short.text, expected)

    def test_saved_steps(self):
        table = [("( r1 r1 p0 d 5 )3 r2 r2 r2 r2", 15), ("", 0), ("r1", 0), (f"( r1 r1 5 d r1 ){MOST}", 4 * MOST),
                 (f"( ( p0 d ){MOST} ){MOST}", 2 * MOST * MOST), (f"( ( p0 d ){MOST} r1 ){MOST}", 2 * MOST * MOST)]
        for text, expected in table:
            self.assertEqual(saved(Program(text)), expected, text)

    def test_long_programs(self):
        for text in (" ".join(["r1"] * 1000), " ".join(["r1"] * 999), " ".join(["1", "r1", "p0", "d", "d"] * 200),
                     " ".join(["( r1 )3"] * 333), " ".join(["( r1 r1 r2 )3"] * 200), " ".join(["( r1 r1 )3 r2"] * 200),
                     "( " * 12 + "r1 r1" + " )2" * 12 + " d", " ".join(["{ r1 r1 |", "p0 d r1", "}"] * 120)):
            self.check_short(text)


class ShortestTest(Case):
    def test_small_and_far_programs(self):
        for text in (*small_texts(385, 200), *makers.far_texts(386, 50)):
            program = Program(text)
            short = shortest(program)
            self.assertIsInstance(short, Program)
            self.assertTrue(short.is_plain and "(" not in short.text)
            self.assertTrue(same_effect(program, short))
            self.assertEqual(short.steps, fewest_for(effect_of(program)))
            self.assertEqual(short.steps, by_formula(tuple(reference.marks(effect_of(program).taken)),
                                                     effect_of(program).left, is_symbol))
            self.assertLessEqual(short.need, program.need)
            self.assertLessEqual(short.steps, shorten(program).steps)

    def test_by_hand(self):
        table = [("", ""), ("( r2 )4", "r2"), (f"( r1 ){MOST}", ""), ("r1 d r1 d", None), ("( 5 )3", "5 5 5"),
                 ("1 ( r2 )4 d", None), ("5 d", ""), ("( d )4", "d d d d"), ("r1 r1 p0", "p0")]
        for text, expected in table:
            if expected is not None:
                self.assertEqual(shortest(Program(text)).text, expected)
        self.assertEqual(shortest(Program("1 ( r2 )4 d")).steps, 3)

    def test_a_part_can_be_replaced(self):
        rng = random.Random(387)
        texts = list(small_texts(388, 60, length=10))
        for turn in range(80):
            first, middle, last = (Program(rng.choice(texts)) for place in range(3))
            if sum(one.need + one.rise for one in (first, middle, last)) > 90:
                continue
            whole = first + middle + last
            for other in (shortest(middle), shorten(middle)):
                self.assertTrue(same_effect(whole, first + other + last))
                self.assertEqual(shortest(whole).steps, shortest(first + other + last).steps)


class WrongTest(Case):
    def test_wrong_arguments(self):
        for call in (shortest, saved):
            self.check_errors(call, programs())
        self.check_errors(shorten, programs(plain=False))
        self.fails(InvalidProgram, lambda: shorten("r1"))
        for text in ("{ | }", "r1 ( { r1 | } )2", f"( {{ r1 r1 | }} ){MOST}"):
            self.fails(NotPlain, lambda: shortest(Program(text)))
            self.fails(NotPlain, lambda: saved(Program(text)))
            shorten(Program(text))

    def test_the_same_again(self):
        program = Program("( r1 r1 p0 d 5 )3 r2 r2 r2 r2")
        shown = makers.shown(program)
        for turn in range(3):
            self.assertTrue(shorten(program) == shorten(Program(program.text)))
            self.assertTrue(shortest(program) == shortest(Program(program.text)))
            self.assertEqual(saved(program), 15)
        self.assertEqual(makers.shown(program), shown)
