"""[2], [5] to [9], section 6: run and states."""

import inspect
import random
import unittest

from stackworks.effects import Effect, effect_of
from stackworks.errors import InvalidChoices, InvalidProgram, InvalidStack, NotPlain, ShortStack
from stackworks.programs import Program
from stackworks.stacks import run, states
from tests import makers, reference
from tests.test_effect_errors import WRONG_PROGRAMS, WRONG_STACKS

MOST = 10 ** 30
WRONG_CHOICES = [*reference.STRANGE, 0, 1, "2", "x", " ", "0 ", "01\n", "\u0660", "0" * 201, ("0",), ["0"], b"0", "-1"]


class StacksCase(unittest.TestCase):
    def fails(self, error, call, **fields):
        with self.assertRaises(error) as caught:
            call()
        self.assertIs(type(caught.exception), error)
        self.assertEqual({name: getattr(caught.exception, name) for name in fields}, fields)

    def performed(self, words, stack):
        """Return the stacks behind 0, 1, 2 and so on of some instructions."""
        cells, found = list(stack), [tuple(stack)]
        for word in words:
            reference.perform(word, cells)
            found.append(reference.values(cells))
        return found


class RunTest(StacksCase):
    def test_instructions(self):
        stack = tuple(range(100))
        for word in ["d", "0", "-5", str(MOST), str(-MOST), *[f"p{at}" for at in range(99)],
                     *[f"r{at}" for at in range(1, 100)]]:
            self.assertEqual(run(Program(word), stack), self.performed([word], stack)[-1])

    def test_plain_programs(self):
        rng, seen = random.Random(121), 0
        while seen < 400:
            text = makers.text(rng, rng.randint(0, 60), rng.randint(0, 4), False, (2, 3, 5), rng.choice([2, 5, 30]))
            row = reference.read(text)
            if reference.steps(row) > 300:
                continue
            seen += 1
            need = reference.sizes(row)[0]
            for high in {need, need + 1, rng.randint(need, 100), 100}:
                if high <= 100:
                    stack = makers.stack(rng, high)
                    self.assertEqual(run(Program(text), stack), self.performed(reference.all_words(row), stack)[-1])
                    self.assertEqual(len(stack), high)

    def test_many_passes(self):
        rng = random.Random(122)
        for turn in range(300):
            body = makers.text(rng, rng.randint(1, 12), 2, False, (2, 3, MOST, MOST - 1), rng.choice([1, 3, 5]))
            first, behind = makers.text(rng, 3, 1), makers.text(rng, 3, 1)
            body = " ".join(makers.with_growth(rng, body.split(" "), 0)) or "r1"
            times = rng.choice([2, 99, 100, MOST, rng.randint(2, MOST)])
            for text in (f"( {body} ){times}", f"( ( {body} ){times} r2 ){MOST}",
                         f"{first} ( {body} ){times} {behind}"):
                if reference.is_high(text):
                    continue
                row = reference.read(text)
                stack = makers.stack(rng, rng.randint(reference.sizes(row)[0], 100))
                self.assertEqual(run(Program(text), stack), reference.values(reference.run_row(row, stack)))

    def test_results_of_more_than_100_cells(self):
        stack = tuple(range(100))
        self.assertEqual(run(Program("( 7 )100"), stack), stack + (7,) * 100)
        self.assertEqual(run(Program("p97 5"), stack), stack + (2, 5))
        self.assertEqual(run(Program("( p0 )50 ( d )49"), stack), stack + (99,))

    def test_stacks_that_are_just_high_enough(self):
        for text, need in (("d", 1), ("p4", 5), ("r99", 100), ("( d )100", 100), ("1 d", 0), ("1 d d", 1), ("", 0),
                           ("{ d | r40 d }", 41), ("{ d p30 | r1 }", 32), ("p2 r5", 5)):
            program = Program(text)
            choices = "0" if "{" in text else ""
            for high in (need, need + 1, 100):
                if high <= 100:
                    run(program, tuple(range(high)), choices=choices)
            for high in {0, need - 1} - {need, -1}:
                self.fails(ShortStack, lambda: run(program, (0,) * high, choices=choices), least=need)

    def test_cells_below_stay(self):
        stack = tuple(range(-50, 50))
        for text in ("r1", "d", "p0", f"( r2 ){MOST}", "( d )20 ( 1 )20"):
            program = Program(text)
            below = 100 - program.need
            self.assertEqual(run(program, stack)[:below], stack[:below])
            self.assertEqual(stack, tuple(range(-50, 50)))

    def test_two_programs(self):
        rng = random.Random(123)
        for turn in range(200):
            one = Program(makers.text(rng, rng.randint(0, 9), 2, False, (2, 3, MOST), 3))
            other = Program(makers.text(rng, rng.randint(0, 9), 2, False, (2, 3, MOST), 3))
            if reference.is_high(" ".join([one.text, other.text]).strip()):
                continue
            stack = makers.stack(rng, max((one + other).need, one.need))
            behind = run(one, stack)
            if len(behind) <= 100:
                self.assertEqual(run(one + other, stack), run(other, behind))
            self.assertTrue(effect_of(one + other) == effect_of(one) + effect_of(other))
            if one.growth == 0:
                times = rng.choice([0, 1, 2, 3, MOST])
                self.assertTrue(effect_of(one * times) == effect_of(one) * times)
                self.assertEqual(run(one * times, stack), (effect_of(one) * times)(stack))

    def test_a_program_fails_below_its_need_the_effect_below_what_it_takes(self):
        rng = random.Random(124)
        for turn in range(200):
            program = Program(makers.text(rng, rng.randint(0, 12), 2, False, (2, 3, MOST), 6))
            effect = effect_of(program)
            for high in range(max(program.need, effect.taken) + 2):
                stack = makers.stack(rng, high)
                if high < program.need:
                    self.fails(ShortStack, lambda: run(program, stack), least=program.need)
                if high < effect.taken:
                    self.fails(ShortStack, lambda: effect(stack), least=effect.taken)
                if high >= max(program.need, effect.taken):
                    self.assertEqual(run(program, stack), effect(stack))
        self.fails(ShortStack, lambda: run(Program("p5 d"), (1, 2)), least=6)
        self.assertEqual(effect_of(Program("p5 d"))((1, 2)), (1, 2))


class ChoicesTest(StacksCase):
    def check(self, text, rng):
        program, need = Program(text), reference.sizes(reference.read(text))[0]
        stack = makers.stack(rng, rng.choice([need, max(need, 30)]))
        for choices, words in reference.ways(reference.read(text)):
            self.assertEqual(run(program, stack, choices=choices), self.performed(words, stack)[-1])
            wrong = [choices + "0", choices + "1", choices + "x", choices[:-1] + "2"] + [choices[:-1]][:len(choices)]
            for other in wrong:
                self.fails(InvalidChoices, lambda: run(program, stack, choices=other))

    def test_small_programs(self):
        rng, seen = random.Random(125), 0
        while seen < 250:
            text = makers.text(rng, rng.randint(1, 25), 4, True, (2, 3), rng.choice([2, 4]))
            if 1 < reference.many_ways(reference.read(text)) <= 100:
                seen += 1
                self.check(text, rng)

    def test_by_hand(self):
        rng = random.Random(126)
        for text in ("{ | }", "{ r1 | } d", "{ { 1 | 2 } | 3 }", "( { r1 | r2 } )4", "( ( { r2 | } r1 )2 1 d )2",
                     "{ ( r2 )4 | ( 5 d )2 }"):
            self.check(text, rng)

    def test_up_to_200_choices(self):
        rng = random.Random(127)
        stack = tuple(range(7))
        for passes in (2, 50, 199, 200):
            program = Program(f"( {{ r1 | r2 }} r4 ){passes}")
            choices = "".join(rng.choice("01") for turn in range(passes))
            words = [word for choice in choices for word in ("r2" if choice == "1" else "r1", "r4")]
            self.assertEqual(run(program, stack, choices=choices), self.performed(words, stack)[-1])
            for wrong in (choices[1:], choices + "1", ""):
                self.fails(InvalidChoices, lambda: run(program, stack, choices=wrong))
        for passes in (201, MOST):
            for count in (0, 1, 199, 200, 201):
                self.fails(InvalidChoices,
                           lambda: run(Program(f"( {{ r1 | r2 }} r4 ){passes}"), stack, choices="1" * count))

    def test_choices_beside_many_passes(self):
        program = Program(f"( ( r4 ){MOST} {{ ( r2 ){MOST - 1} | p0 d }} ( 7 r1 d ){MOST} r3 )40")
        stack = makers.stack(random.Random(128), 9)
        for choices in ("01" * 20, "0" * 40, "1" * 40):
            cells = list(stack)
            for choice in choices:
                body = f"( r4 ){MOST} " + (f"( r2 ){MOST - 1} " if choice == "0" else "") + "( 7 r1 d )2 r3"
                cells = reference.run_row(reference.read(body), cells)
            self.assertEqual(run(program, stack, choices=choices), reference.values(cells))
        inside = Program(f"{{ ( {{ | }} ){MOST} | 7 d }}")
        self.assertEqual(run(inside, (1, 2), choices="1"), (1, 2))
        self.fails(InvalidChoices, lambda: run(inside, (1, 2), choices="0" * 200))

    def test_the_need_does_not_depend_on_what_is_chosen(self):
        program = Program("{ r9 | } 1")
        self.fails(ShortStack, lambda: run(program, (1,) * 9, choices="1"), least=10)
        self.assertEqual(run(program, (1,) * 10, choices="1"), (1,) * 11)


class StatesTest(StacksCase):
    def test_small_programs(self):
        rng, seen = random.Random(129), 0
        while seen < 200:
            text = makers.text(rng, rng.randint(0, 40), rng.randint(0, 4), False, (2, 3, 5), rng.choice([2, 5, 30]))
            row = reference.read(text)
            if reference.steps(row) > 300:
                continue
            seen += 1
            stack = makers.stack(rng, rng.randint(reference.sizes(row)[0], 100))
            found = list(states(Program(text), stack))
            self.assertEqual(found, self.performed(reference.all_words(row), stack))
            self.assertEqual({type(state) for state in found}, {tuple})

    def test_over_4000_steps(self):
        program, stack = Program("( ( r3 1 )7 ( r9 d )7 r2 )139 p0"), tuple(range(20))
        words = reference.all_words(reference.read(program.text))
        self.assertGreater(len(words), 4000)
        found = list(states(program, stack))
        self.assertEqual(found, self.performed(words, stack))
        self.assertEqual(found[-1], run(program, stack))

    def test_empty_programs(self):
        self.assertEqual(list(states(Program(""), ())), [()])
        self.assertEqual(list(states(Program(""), (1, 2))), [(1, 2)])

    def test_endless_programs_in_part(self):
        program = Program("( " * 11 + "r2 5 r1 d" + f" ){MOST}" * 11)
        words = "r2 5 r1 d".split() * 500
        expected = self.performed(words, (1, 2, 3))
        self.assertEqual([state for turn, state in zip(range(2001), states(program, (1, 2, 3)))], expected)

    def test_several_at_the_same_time(self):
        program = Program(f"( r2 7 d ){MOST}")
        walks = [states(program, (at, at + 1, at + 2)) for at in range(3)]
        expected = [self.performed("r2 7 d".split() * 30, (at, at + 1, at + 2)) for at in range(3)]
        for turn in range(90):
            for at, walk in enumerate(walks):
                if turn % (at + 1) == 0:
                    self.assertEqual(next(walk), expected[at][turn // (at + 1)])

    def test_it_is_a_generator(self):
        self.assertTrue(inspect.isgeneratorfunction(states))
        walk = states(Program("d"), ())
        with self.assertRaises(ShortStack):
            next(walk)
        self.assertEqual(list(walk), [])


class WrongArgumentsTest(StacksCase):
    def first(self, program, stack):
        """Request the first item; the call alone raises nothing."""
        walk = states(program, stack)
        return next(walk)

    def test_programs(self):
        for program in WRONG_PROGRAMS:
            for stack in ((), (1,), None, [1]):
                self.fails(InvalidProgram, lambda: self.first(program, stack))
                for choices in ("", "0", None):
                    self.fails(InvalidProgram, lambda: run(program, stack, choices=choices))
        for program in (Program("{ | }"), Program("( { r1 | } )2")):
            for stack in (None, [1], (), (1, 2)):
                self.fails(NotPlain, lambda: self.first(program, stack))

    def test_stacks(self):
        for stack in WRONG_STACKS:
            for program in (Program(""), Program("d"), Program("r99")):
                self.fails(InvalidStack, lambda: run(program, stack))
                self.fails(InvalidStack, lambda: run(program, stack, choices=7))
                self.fails(InvalidStack, lambda: self.first(program, stack))
        for stack in ((), (0,), (MOST, -MOST), (0,) * 100):
            self.assertEqual(run(Program(""), stack), stack)
            self.assertEqual(self.first(Program(""), stack), stack)

    def test_short_stacks(self):
        for text, need in (("d", 1), ("r99", 100), ("( d )7", 7), ("1 p9", 9)):
            for high in (0, need - 1):
                self.fails(ShortStack, lambda: run(Program(text), (1,) * high), least=need)
                self.fails(ShortStack, lambda: run(Program(text), (1,) * high, choices=None), least=need)
                self.fails(ShortStack, lambda: self.first(Program(text), (1,) * high), least=need)

    def test_choices(self):
        for choices in WRONG_CHOICES:
            for text in ("", "r1", "{ | }", "{ r1 | } { | }"):
                self.fails(InvalidChoices, lambda: run(Program(text), (1, 2, 3), choices=choices))
        self.fails(InvalidChoices, lambda: run(Program("{ | }"), ()))
        self.fails(InvalidChoices, lambda: run(Program(""), (), choices="0"))
        with self.assertRaises(TypeError):
            run(Program("{ | }"), (), "0")

    def test_arguments_do_not_change(self):
        program, stack = Program("( { r1 | r2 } 5 d )2"), [1, 2, 3]
        shown = makers.shown(program)
        run(program, tuple(stack), choices="01")
        self.fails(InvalidStack, lambda: run(program, stack, choices="01"))
        self.assertEqual((makers.shown(program), stack), (shown, [1, 2, 3]))


if __name__ == "__main__":
    unittest.main()
