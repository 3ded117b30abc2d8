"""[2], [7], [9], [10], section 9: effect_at, stack_at, place_at and next_at."""

import random
import unittest

from stackworks.effects import Effect, effect_of
from stackworks.errors import InvalidIndex, InvalidProgram, InvalidStack, InvalidStep, NotPlain, ShortStack
from stackworks.moments import effect_at, next_at, place_at, stack_at
from stackworks.programs import Program, word_at
from stackworks.stacks import run, states
from tests import makers, reference
from tests.test_effect_errors import NO_NUMBERS, WRONG_PROGRAMS, WRONG_STACKS

MOST = 10 ** 30
NESTED = "( " * 12 + "r2 7 p3 r5 d d" + f" ){MOST}" * 12


def places(words):
    """Return the places (index, passes) of all steps of the words of a small plain program text."""
    found, _ = places_from(words, 0, [])
    return found


def places_from(words, at, passes):
    found = []
    while at < len(words) and words[at][0] != ")":
        if words[at] != "(":
            found.append((at, passes))
            at += 1
            continue
        inner, end = places_from(words, at + 1, [])
        found += [(index, passes + [turn] + more) for turn in range(int(words[end][1:])) for index, more in inner]
        at = end + 1
    return found, at


def lengths(words):
    """Return for each instruction of a text the list (steps before it in its pass, steps of a pass, passes)."""
    return {index: found for index, found in lengths_of(reference.read(" ".join(words)), 0)[0]}


def lengths_of(row, at):
    found, before = [], 0
    for part in row:
        if isinstance(part, str):
            found.append((at, [(before, 1, 1)]))
            at, before = at + 1, before + 1
            continue
        inner, end = lengths_of(part[1], at + 1)
        many = reference.steps(part[1])
        found += [(index, [(before, many, part[2])] + more) for index, more in inner]
        at, before = end + 1, before + many * part[2]
    return found, at


def small_texts(seed, count, most=300):
    rng = random.Random(seed)
    while count > 0:
        text = makers.text(rng, rng.randint(0, 25), rng.randint(0, 4), False, (2, 3, 5), rng.choice([2, 5, 30]))
        if reference.steps(reference.read(text)) <= most:
            count -= 1
            yield text


def some_steps(rng, steps, count):
    """Return numbers of steps: the first and the last ones, and some between."""
    found = [at for at in (0, 1, 2, steps // 2, steps - 1, steps) if 0 <= at <= steps]
    return found + [rng.randint(0, steps) for turn in range(count)]


def cells_at(row, step, cells):
    """Return the marked cells behind the first steps of a plain row."""
    for part in row:
        if step == 0:
            return cells
        if isinstance(part, str):
            cells = list(cells)
            reference.perform(part, cells)
            step -= 1
            continue
        many = reference.steps(part[1])
        done = min(step // many, part[2])
        body = reference.effect_by_parts(part[1])
        cells = reference.many_times(lambda before: reference.moved(*body, before), list(cells), done)
        step -= done * many
        if done < part[2]:
            return cells_at(part[1], step, cells)
    return cells


class MomentsCase(unittest.TestCase):
    def fails(self, error, call, **fields):
        with self.assertRaises(error) as caught:
            call()
        self.assertIs(type(caught.exception), error)
        self.assertEqual({name: getattr(caught.exception, name) for name in fields}, fields)


class StateTest(MomentsCase):
    def test_each_step_of_small_programs(self):
        rng = random.Random(141)
        for text in small_texts(142, 120):
            program, row = Program(text), reference.read(text)
            need = reference.sizes(row)[0]
            stack = makers.stack(rng, rng.randint(need, 100))
            marks, cells = reference.marks(need), list(stack)
            for step, word in enumerate(reference.all_words(row) + [None]):
                effect = effect_at(program, step)
                self.assertEqual((effect.taken, effect.left), reference.cut(need, marks))
                self.assertEqual(stack_at(program, step, stack), reference.values(cells))
                if word is not None:
                    reference.perform(word, marks)
                    reference.perform(word, cells)

    def test_far_programs(self):
        rng = random.Random(143)
        for text in makers.far_texts(144, 60):
            program, row = Program(text), reference.read(text)
            need = reference.sizes(row)[0]
            stack = makers.stack(rng, rng.randint(need, 100))
            for step in some_steps(rng, program.steps, 6):
                effect = effect_at(program, step)
                expected = cells_at(row, step, reference.marks(need))
                self.assertEqual((effect.taken, effect.left), reference.cut(need, expected))
                self.assertEqual(stack_at(program, step, stack), effect(stack))

    def test_programs_of_10_to_the_300_steps(self):
        program = Program(NESTED)
        self.assertGreater(program.steps, 10 ** 300)
        rng, steps = random.Random(145), program.steps
        stack = makers.stack(rng, 10)
        for step in some_steps(rng, steps - 1, 20):
            behind = stack_at(program, step, stack)
            self.assertEqual(stack_at(program, step + 1, stack), run(Program(word_at(program, step)), behind))
            self.assertTrue(effect_at(program, step) + effect_of(Program(word_at(program, step)))
                            == effect_at(program, step + 1))

    def test_the_beginning_and_the_end(self):
        for text in (*small_texts(146, 40), *makers.far_texts(147, 20), ""):
            program = Program(text)
            self.assertTrue(effect_at(program, 0) == Effect(0, ()))
            self.assertTrue(effect_at(program, program.steps) == effect_of(program))
            stack = tuple(range(program.need))
            self.assertEqual(stack_at(program, 0, stack), stack)
            self.assertEqual(stack_at(program, program.steps, stack), run(program, stack))

    def test_the_same_as_states(self):
        for text in ("1 ( r2 )4 d", "( ( 1 r3 )3 ( d )3 )4", "p4 ( r5 p0 d )7", "( r9 )100 ( 7 )50 ( d )60"):
            program = Program(text)
            stack = tuple(range(program.need))
            self.assertEqual([stack_at(program, step, stack) for step in range(program.steps + 1)],
                             list(states(program, stack)))

    def test_the_need_of_the_whole_program(self):
        program = Program("1 r1 ( d )9")
        for step in range(program.steps + 1):
            self.fails(ShortStack, lambda: stack_at(program, step, (1,) * 7), least=8)
            stack_at(program, step, (1,) * 8)


class PlaceTest(MomentsCase):
    def test_each_step_of_small_programs(self):
        for text in small_texts(148, 150):
            program = Program(text)
            expected = places(program.text.split(" ") if text else [])
            self.assertEqual([place_at(program, step) for step in range(program.steps)], expected)
            self.assertIsNone(place_at(program, program.steps))

    def test_far_programs(self):
        rng = random.Random(149)
        for text in makers.far_texts(150, 80):
            program, words = Program(text), text.split(" ")
            told = lengths(words)
            for step in some_steps(rng, program.steps - 1, 10):
                index, passes = place_at(program, step)
                self.assertEqual(words[index], word_at(program, step))
                *around, last = told[index]
                self.assertEqual(len(passes), len(around))
                total = last[0]
                for done, (before, many, times) in zip(passes, around):
                    self.assertTrue(0 <= done < times)
                    total += before + done * many
                self.assertEqual(total, step)
            self.assertIsNone(place_at(program, program.steps))

    def test_by_hand(self):
        table = [
            ("1 ( r2 )4 d", 0, (0, [])), ("1 ( r2 )4 d", 1, (2, [0])), ("1 ( r2 )4 d", 4, (2, [3])),
            ("1 ( r2 )4 d", 5, (4, [])), ("1 ( r2 )4 d", 6, None), ("", 0, None),
            ("( ( r1 r2 )2 d 1 )3", 0, (2, [0, 0])), ("( ( r1 r2 )2 d 1 )3", 3, (3, [0, 1])),
            ("( ( r1 r2 )2 d 1 )3", 5, (6, [0])), ("( ( r1 r2 )2 d 1 )3", 15, (3, [2, 1])),
            ("( r1 )2 ( r2 )3", 2, (4, [0])), ("( r1 )2 ( r2 )3 r3", 5, (6, [])),
            (f"( ( r1 ){MOST} r2 ){MOST}", 10 ** 60 + MOST - 1, (4, [MOST - 1])),
        ]
        for text, step, place in table:
            self.assertEqual(place_at(Program(text), step), place, (text, step))

    def test_lists_are_new(self):
        program = Program("( ( r1 )2 )2")
        place_at(program, 1)[1].append(7)
        self.assertEqual(place_at(program, 1), (2, [0, 1]))
        self.assertIsNot(place_at(program, 1)[1], place_at(program, 1)[1])
        self.assertEqual(type(place_at(program, 1)), tuple)
        self.assertEqual(type(place_at(program, 1)[1]), list)


class NextTest(MomentsCase):
    def test_each_step_of_small_programs(self):
        for text in small_texts(151, 80, 120):
            program, words = Program(text), reference.split(text)
            order = [index for index, passes in places(words)]
            for index in range(len(words)):
                if words[index][0] in "()":
                    continue
                expected, last = [], None
                for step in range(program.steps, -1, -1):
                    if step < program.steps and order[step] == index:
                        last = step
                    expected.append(last)
                found = [next_at(program, step, index) for step in range(program.steps, -1, -1)]
                self.assertEqual(found, expected, (text, index))

    def test_far_programs(self):
        rng = random.Random(152)
        for text in makers.far_texts(153, 60):
            program, words = Program(text), text.split(" ")
            told = lengths(words)
            for step in some_steps(rng, program.steps, 8):
                for index in rng.sample(sorted(told), min(6, len(told))):
                    found = next_at(program, step, index)
                    self.assertEqual(found, self.least(told[index], step))
                    if found is not None:
                        self.assertEqual(place_at(program, found)[0], index)

    def least(self, told, step):
        """Return the least step of an instruction, at least `step`, from the lengths around it, or None."""
        (before, many, times), *inner = told
        if not inner:
            return before if before >= step else None
        first = sum(more for more, _, _ in inner)
        if step <= before + first:
            return before + first
        done = (step - before) // many
        for turn in (done, done + 1):
            if turn < times:
                found = self.least(inner, step - before - turn * many)
                if found is not None:
                    return before + turn * many + found
        return None

    def test_places_are_found_again(self):
        rng = random.Random(154)
        for text in makers.far_texts(155, 60):
            program = Program(text)
            for step in some_steps(rng, program.steps - 1, 10):
                index, passes = place_at(program, step)
                self.assertEqual(next_at(program, step, index), step)
                later = next_at(program, step + 1, index)
                if later is not None:
                    self.assertGreater(later, step)
                    self.assertEqual(place_at(program, later)[0], index)
                    self.assertGreater(place_at(program, later)[1], passes)

    def test_by_hand(self):
        text = f"r1 ( r2 ( r3 )3 r4 ){MOST} r5"
        program = Program(text)
        table = [
            (0, 0, 0), (1, 0, None), (0, 2, 1), (1, 2, 1), (2, 2, 6), (5, 2, 6), (0, 4, 2), (3, 4, 3), (4, 4, 4),
            (5, 4, 7), (6, 4, 7), (0, 6, 5), (6, 6, 10), (0, 8, 5 * MOST + 1), (5 * MOST + 1, 8, 5 * MOST + 1),
            (5 * MOST + 2, 8, None), (5 * MOST - 3, 2, None), (5 * MOST - 4, 2, 5 * MOST - 4),
            (5 * MOST, 4, None), (5 * MOST - 1, 4, 5 * MOST - 1), (5 * MOST, 6, 5 * MOST), (5 * MOST + 1, 6, None),
        ]
        for step, index, expected in table:
            self.assertEqual(next_at(program, step, index), expected, (step, index))

    def test_brackets_are_no_instructions(self):
        for text in ("( r1 )2", "r1 ( ( 1 d )2 r3 )4 d", NESTED):
            words = text.split(" ")
            for index, word in enumerate(words):
                if word[0] in "()":
                    self.fails(InvalidIndex, lambda: next_at(Program(text), 0, index))
                else:
                    next_at(Program(text), 0, index)

    def test_sums_and_products(self):
        one, other = Program("( r1 r2 )3 d"), Program("1 ( r3 )4")
        both, many = one + other, (one + Program("7")) * MOST
        self.assertEqual([place_at(both, step) for step in (0, 6, 7, 8, 11)],
                         [(1, [0]), (4, []), (5, []), (7, [0]), (7, [3])])
        self.assertEqual(next_at(both, 8, 7), 8)
        self.assertEqual(place_at(many, 8 * MOST - 1), (6, [MOST - 1]))
        self.assertEqual(place_at(many, 8 * MOST - 3), (3, [MOST - 1, 2]))
        self.assertEqual(next_at(many, 9, 2), 10)


class WrongArgumentsTest(MomentsCase):
    def calls(self, program, step):
        return [lambda: effect_at(program, step), lambda: stack_at(program, step, (1, 2, 3)),
                lambda: stack_at(program, step, None), lambda: place_at(program, step),
                lambda: next_at(program, step, 0), lambda: next_at(program, step, None)]

    def test_programs(self):
        for program in WRONG_PROGRAMS:
            for step in (0, -1, None):
                for call in self.calls(program, step):
                    self.fails(InvalidProgram, call)
        for program in (Program("{ | }"), Program("r1 ( { r1 | } )2")):
            for step in (0, -1, None, 10 ** 399):
                for call in self.calls(program, step):
                    self.fails(NotPlain, call)

    def test_steps(self):
        for text in ("", "r1", "( r1 d 1 )9", NESTED):
            program = Program(text)
            for step in [*NO_NUMBERS, -1, -MOST, program.steps + 1, 10 ** 399, -10 ** 399]:
                for call in self.calls(program, step):
                    self.fails(InvalidStep, call)

    def test_stacks(self):
        for stack in WRONG_STACKS:
            for text in ("", "r1", "( d )50"):
                self.fails(InvalidStack, lambda: stack_at(Program(text), 0, stack))
        for step in (0, 1, 50):
            self.fails(ShortStack, lambda: stack_at(Program("( d )50"), step, (1,) * 49), least=50)
            self.fails(ShortStack, lambda: stack_at(Program("( d )50"), step, ()), least=50)
        self.assertEqual(stack_at(Program("( 1 )50"), 7, (0,) * 100), (0,) * 100 + (1,) * 7)

    def test_indexes(self):
        for text in ("", "r1", "( r1 d 1 )9"):
            program = Program(text)
            for index in [*NO_NUMBERS, -1, -2, len(program), len(program) + 1, 10 ** 399, -10 ** 399]:
                for step in (0, program.steps):
                    self.fails(InvalidIndex, lambda: next_at(program, step, index))

    def test_valid_arguments_raise_nothing(self):
        program = Program(NESTED)
        for step in (0, 1, program.steps - 1, program.steps):
            effect_at(program, step), place_at(program, step), next_at(program, step, 12)
            stack_at(program, step, (MOST,) * 100)

    def test_programs_do_not_change(self):
        program = Program("r1 ( r2 ( r3 )3 )4")
        shown, stack = makers.shown(program), (4, 3, 2, 1)
        effect_at(program, 5), stack_at(program, 5, stack), place_at(program, 5), next_at(program, 5, 2)
        self.assertEqual((makers.shown(program), stack), (shown, (4, 3, 2, 1)))


if __name__ == "__main__":
    unittest.main()
