"""[2], [6], [9], [10], section 7: effect_of and same_effect."""

import itertools
import random
import unittest

from stackworks.effects import effect_of, same_effect
from stackworks.errors import InvalidChoices
from stackworks.programs import Program
from tests import makers, reference

MOST = 10 ** 30


class PlainTest(unittest.TestCase):
    def check(self, text):
        effect, row = effect_of(Program(text)), reference.read(text)
        self.assertEqual((effect.taken, effect.left), reference.effect_of_row(row), text)
        self.assertEqual(effect.growth, reference.sizes(row)[2])

    def test_instructions(self):
        for word in ["d", "0", "-5", str(MOST), str(-MOST), *[f"p{at}" for at in range(99)]]:
            self.check(word)
        for depth in range(1, 100):
            self.check(f"r{depth}")

    def test_programs(self):
        rng = random.Random(61)
        for turn in range(700):
            count, deep, reach = rng.randint(0, 60), rng.randint(0, 5), rng.choice([2, 5, 20, 80])
            self.check(makers.text(rng, count, deep, False, (2, 3, 5), reach))

    def test_repeats_of_many_passes(self):
        rng = random.Random(62)
        for turn in range(500):
            times = (2, 3, 7, MOST, MOST - 1, rng.randint(2, MOST))
            self.check(makers.text(rng, rng.randint(1, 30), rng.randint(1, 5), False, times, rng.choice([1, 2, 3, 4])))
        for deep in range(1, 13):
            self.check(makers.nested(rng, deep, "r2 7 r3 d", (MOST, MOST - 1, MOST - 2, 3)))

    def test_repeats_with_growth(self):
        for text in ("( 1 )100", "( d )100", "( 1 p0 )50", "( p1 r2 )97", "( r3 d )96", "( 5 r1 d d )99",
                     "( p9 r9 )90"):
            self.check(text)

    def test_high_programs(self):
        for text in ("p98", "r99", "( r99 )100", f"( r99 ){MOST}", f"( r99 r50 r98 r1 )57", "p98 d p98 r99 d",
                     " ".join(["r99"] * 1000), "( 1 )50 ( d )100", "( d )100 ( 1 )100", "( r99 d 1 )100"):
            self.check(text)

    def test_no_words(self):
        effect = effect_of(Program(""))
        self.assertEqual((effect.taken, effect.left), (0, ()))


class ChoicesTest(unittest.TestCase):
    def fails(self, program, choices):
        with self.assertRaises(InvalidChoices) as caught:
            effect_of(program, choices=choices)
        self.assertIs(type(caught.exception), InvalidChoices)

    def check(self, text):
        """Compare all ways through a small program, and choices that are too few or too many."""
        program, need = Program(text), reference.sizes(reference.read(text))[0]
        for choices, words in reference.ways(reference.read(text)):
            cells = reference.marks(need)
            for word in words:
                reference.perform(word, cells)
            effect = effect_of(program, choices=choices)
            self.assertEqual((effect.taken, effect.left), reference.cut(need, cells), (text, choices))
            self.fails(program, choices + "0")
            self.fails(program, choices + "1")
            if choices:
                self.fails(program, choices[:-1])

    def test_small_programs(self):
        rng, seen = random.Random(63), 0
        while seen < 350:
            text = makers.text(rng, rng.randint(1, 25), 4, True, (2, 3), rng.choice([2, 4]))
            if 1 < reference.many_ways(reference.read(text)) <= 200:
                seen += 1
                self.check(text)

    def test_programs_by_hand(self):
        for text in ("{ | }", "{ r1 | r2 }", "{ 1 | 2 } { p0 | 3 }", "{ { 1 | 2 } | 3 }",
                     "{ 1 | { 2 | { 3 | 4 } } } r1", "( { r1 | } )3", "( ( { r2 | } r1 )2 1 d )2",
                     "( { ( { d | r1 d } )2 1 1 | } )2", "r1 { | } r1"):
            self.check(text)
        self.assertEqual(effect_of(Program("{ 1 | 2 }"), choices="0").left, (("lit", 1),))
        self.assertEqual(effect_of(Program("{ 1 | 2 }"), choices="1").left, (("lit", 2),))

    def test_inner_choices_are_met_only_in_their_part(self):
        program = Program("{ { 1 | 2 } | 3 } { 4 | 5 }")
        for choices in ("000", "001", "010", "011", "10", "11"):
            effect_of(program, choices=choices)
        for choices in ("", "0", "1", "00", "01", "100", "111", "0000"):
            self.fails(program, choices)

    def test_as_many_choices_as_can_be_told(self):
        rng = random.Random(64)
        for passes in (2, 100, 199, 200):
            program = Program("( { r1 | r2 } r4 )%d" % passes)
            choices = "".join(rng.choice("01") for turn in range(passes))
            cells = reference.marks(5)
            for choice in choices:
                reference.perform("r2" if choice == "1" else "r1", cells)
                reference.perform("r4", cells)
            effect = effect_of(program, choices=choices)
            self.assertEqual((effect.taken, effect.left), reference.cut(5, cells))
            for wrong in (choices[:-1], choices + "0", "", choices + choices):
                self.fails(program, wrong)
        for passes in (201, 202, 10 ** 6, MOST):
            for count in (0, 1, 199, 200, 201, 202):
                self.fails(Program("( { r1 | r2 } r4 )%d" % passes), "0" * count)
        for text in (f"( ( r1 {{ | }} ){MOST} r2 ){MOST}", f"{{ ( {{ | }} ){MOST} | }}"):
            for count in (0, 1, 2, 200, 201):
                self.fails(Program(text), "0" * count)
        self.assertEqual(len(effect_of(Program(f"{{ ( {{ | }} ){MOST} | }}"), choices="1")), 0)

    def test_long_repeats_around_and_beside_choices(self):
        program = Program(f"( ( r4 ){MOST} {{ ( r2 ){MOST - 1} | p0 d }} ( 7 r1 d ){MOST} r3 )40")
        for choices in ("01" * 20, "0" * 40, "1" * 40):
            cells = reference.marks(5)
            for choice in choices:
                body = f"( r4 ){MOST} " + (f"( r2 ){MOST - 1} " if choice == "0" else "") + "( 7 r1 d )2 r3"
                cells = reference.run_row(reference.read(body), cells)
            effect = effect_of(program, choices=choices)
            self.assertEqual((effect.taken, effect.left), reference.cut(5, cells))

    def test_values_that_are_no_choices(self):
        strings = ["2", "x", " ", "0 ", "0\n", "01a", "\u0660", "\u00b9", "0" * 201, "1" * 4000, "-1", "True"]
        for text in ("", "r1", "{ | }", "{ | } { | }"):
            for value in [*reference.STRANGE, *strings, 0, 1, 10, (), ("0",), ["0"], b"0", Program(text)]:
                self.fails(Program(text), value)

    def test_plain_programs_meet_none(self):
        for text in ("", "r1", f"( r1 ){MOST}"):
            self.assertTrue(effect_of(Program(text), choices="") == effect_of(Program(text)))
            self.fails(Program(text), "0")
            self.fails(Program(text), "1")
        self.fails(Program("{ | }"), "")
        with self.assertRaises(InvalidChoices):
            effect_of(Program("{ | }"))

    def test_choices_are_passed_by_keyword(self):
        with self.assertRaises(TypeError):
            effect_of(Program("{ | }"), "0")


class SameEffectTest(unittest.TestCase):
    def test_exactly_if_both_effects_are_equal(self):
        rng = random.Random(65)
        texts = [makers.text(rng, rng.randint(0, 5), 2, False, (2, 3, MOST), 1) for turn in range(150)]
        found = 0
        for first, second in itertools.product(texts, texts):
            same = reference.effect_of_row(reference.read(first)) == reference.effect_of_row(reference.read(second))
            self.assertIs(same_effect(Program(first), Program(second)), same)
            found += same and first != second
        self.assertGreater(found, 100)

    def test_by_hand(self):
        same = [("r1 r1", ""), ("( r2 )3", ""), ("p0 d", ""), ("1 p0", "1 1"), ("p1 p1", "p1 p1 r1 r1"),
                ("5 d", "r99 ( r99 )99"),
                (f"( r1 ){MOST}", ""), (f"( r2 ){MOST}", "r2"), ("p0 r1", "p0"), ("d d", "r1 d d")]
        other = [("r1", ""), ("p0", "p1"), ("1", "2"), ("1", ""), ("d", ""), ("p0 d d", "r1 d"),
                 (f"( r1 ){MOST - 1}", ""),
                 ("1 2", "2 1"), ("d", "d d"), ("p0", "0")]
        for first, second in same + [(second, first) for first, second in same]:
            self.assertIs(same_effect(Program(first), Program(second)), True)
        for first, second in other + [(second, first) for first, second in other]:
            self.assertIs(same_effect(Program(first), Program(second)), False)


if __name__ == "__main__":
    unittest.main()
