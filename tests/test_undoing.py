"""[2], [10], [11], section 12: programs for effects, what undoes them, and what can still be reached."""

import itertools
import random

from stackworks.effects import Effect, effect_of
from stackworks.errors import InvalidEffect, InvalidProgram, InvalidStep, Lost, NotPlain
from stackworks.moments import effect_at
from stackworks.programs import Program
from stackworks.stacks import run
from stackworks.undoing import can_undo, fewest_for, lost_from, program_for, steps_to_go, undo_for
from tests import makers, reference
from tests.cases import MOST, Case, effects, first_states, looping_texts, programs, small_texts, steps_of
from tests.fewest import all_distances, by_formula

NESTED = "( " * 12 + "r2 7 p3 r5 d d" + f" ){MOST}" * 12
NOTHING = Effect(0, ())


def is_symbol(source):
    return source[0] == "in"


def to_go(height, cells, effect):
    """Return the fewest steps from marked cells, that so many have become, to an effect, by the formula."""
    deepest = max(height, effect.taken)
    below = reference.marks(deepest)
    return by_formula(tuple(below[:deepest - height]) + tuple(cells),
                      tuple(below[:deepest - effect.taken]) + effect.left, is_symbol)


def some_effects(seed, count, sizes=(1, 2, 4, 9, 30, 100)):
    rng = random.Random(seed)
    for turn in range(count):
        yield Effect(*makers.pair(rng, rng.choice(sizes), turn % 3 == 0))


class ProgramForTest(Case):
    def test_programs_have_the_effect(self):
        for effect in some_effects(341, 500):
            program = program_for(effect)
            self.assertIsInstance(program, Program)
            self.assertTrue(program.is_plain and "(" not in program.text)
            self.assertTrue(effect_of(program) == effect)
            self.assertEqual(program.steps, fewest_for(effect))
            expected = by_formula(tuple(reference.marks(effect.taken)), effect.left, is_symbol)
            self.assertEqual(fewest_for(effect), expected)

    def test_all_programs_tried(self):
        # Cells deeper than the effect takes do not help, so two more are enough to see it.
        for taken in range(3):
            cells = tuple(reference.marks(taken + 1))
            for left, steps in all_distances(cells, (("lit", 1), ("lit", 2)), 4).items():
                if len(left) < 4:
                    effect = Effect(taken + 1, left)
                    self.assertEqual(fewest_for(effect), steps, (taken, left))
                    self.assertEqual(program_for(effect).steps, steps)

    def test_the_highest_effects(self):
        rng = random.Random(342)
        marks = reference.marks(100)
        for turn in range(6):
            mixed = marks[:]
            rng.shuffle(mixed)
            for left in (mixed, mixed[:1] * 100, mixed[:50] * 2, mixed[:50], [], [("lit", at) for at in range(100)],
                         mixed[50:] + mixed[:50], marks[1:] + marks[:1], marks[::-1]):
                effect = Effect(100, tuple(left))
                program = program_for(effect)
                self.assertTrue(effect_of(program) == effect)
                self.assertEqual(program.steps, fewest_for(effect))
        for effect in (Effect(0, (("lit", 7),) * 100), Effect(1, (("in", 0),) * 100), Effect(100, ()),
                       Effect(1, (("in", 0),) + (("lit", 7),) * 99)):
            self.assertTrue(effect_of(program_for(effect)) == effect)

    def test_no_program_of_this_effect_is_shorter(self):
        for text in small_texts(343, 150):
            program = Program(text)
            effect = effect_of(program)
            self.assertLessEqual(fewest_for(effect), program.steps)
            self.assertTrue(effect_of(program_for(effect)) == effect)
            self.assertLessEqual(program_for(effect).need, program.need)

    def test_by_hand(self):
        table = [("", ""), ("r1 r1", ""), ("p0", "p0"), ("r1 r1 p0", "p0"), ("( r2 )4", "r2"), ("5 d", ""),
                 ("( d )7", "d d d d d d d"), ("1 ( r2 )4 d", None), ("r1 d", "r1 d"), ("d d 3", "d d 3"),
                 ("p0 r1", "p0"), (f"( r9 ){MOST}", "")]
        for text, expected in table:
            effect = effect_of(Program(text))
            if expected is not None:
                self.assertEqual(program_for(effect).text, expected, text)
                self.assertEqual(fewest_for(effect), len(reference.split(expected)))
        self.assertEqual(fewest_for(effect_of(Program("1 ( r2 )4 d"))), 3)


class UndoTest(Case):
    def test_what_can_be_undone(self):
        undone = 0
        for effect in some_effects(344, 800):
            lost = [depth for depth in range(effect.taken) if ("in", depth) not in effect.left]
            self.assertIs(can_undo(effect), not lost)
            if lost:
                self.fails(Lost, lambda: undo_for(effect), depth=lost[0])
                continue
            undone += 1
            program = undo_for(effect)
            self.assertTrue(program.is_plain and "(" not in program.text)
            self.assertTrue(effect + effect_of(program) == NOTHING)
            expected = by_formula(effect.left, tuple(reference.marks(effect.taken)), is_symbol)
            self.assertEqual(program.steps, expected)
        self.assertGreater(undone, 100)

    def test_all_programs_tried(self):
        for taken in range(3):
            goal = tuple(reference.marks(taken))
            for size in range(4):
                for left in itertools.product([*goal, ("lit", 1)], repeat=size):
                    effect = Effect(taken, left)
                    if can_undo(effect):
                        found = all_distances(left, (("lit", 1),), 4)
                        self.assertEqual(undo_for(effect).steps, found[goal])

    def test_stacks_come_back(self):
        rng = random.Random(345)
        for text in small_texts(346, 150):
            program = Program(text)
            effect = effect_of(program)
            if can_undo(effect):
                stack = makers.stack(rng, rng.randint(program.need, 90))
                behind = run(program, stack)
                if len(behind) <= 100:
                    self.assertEqual(run(undo_for(effect), behind), stack)

    def test_by_hand(self):
        table = [("", ""), ("r1", "r1"), ("p0", "d"), ("p5 p5", "d d"), ("1 2 3", "d d d"), ("r2", None),
                 (f"( r2 ){MOST}", None), ("r1 p0 r2", None)]
        for text, expected in table:
            effect = effect_of(Program(text))
            self.assertTrue(can_undo(effect))
            if expected is not None:
                self.assertEqual(undo_for(effect).text, expected)
        for text, depth in [("d", 0), ("r1 d", 1), ("r9 d d", 0), ("p0 d d 7", 0), ("r3 d p0", 3), ("( d )100", 0),
                            ("r99 d", 99), ("r99 d r98 d", 98)]:
            effect = effect_of(Program(text))
            self.assertIs(can_undo(effect), False)
            self.fails(Lost, lambda: undo_for(effect), depth=depth)

    def test_the_highest_effects(self):
        marks = reference.marks(100)
        for left in (marks[::-1], marks[1:] + marks[:1], marks):
            effect = Effect(100, tuple(left))
            self.assertTrue(effect + effect_of(undo_for(effect)) == NOTHING)
        effect = Effect(50, tuple(reference.marks(50) * 2))
        self.assertTrue(effect + effect_of(undo_for(effect)) == NOTHING)


class StepsToGoTest(Case):
    def test_each_step_of_small_programs(self):
        rng = random.Random(347)
        texts = list(small_texts(348, 60, 60, length=12))
        for text in texts:
            program, row = Program(text), reference.read(text)
            height = reference.sizes(row)[0]
            goals = [effect_of(program), NOTHING, effect_of(Program(rng.choice(texts))),
                     Effect(*makers.pair(rng, rng.choice([2, 5, 30])))]
            cells = reference.marks(height)
            for step, word in enumerate(reference.all_words(row) + [None]):
                for goal in goals:
                    self.assertEqual(steps_to_go(program, step, goal), to_go(height, cells, goal))
                if word is not None:
                    reference.perform(word, cells)

    def test_all_programs_tried(self):
        rng = random.Random(349)
        for turn in range(12):
            program = Program(makers.text(rng, rng.randint(1, 5), 0, False, (2,), 1))
            if program.need > 3 or program.rise + program.need > 4:
                continue
            cells = tuple(reference.marks(3))
            for step in range(program.steps + 1):
                start = list(cells)
                for word in program.text.split(" ")[:step]:
                    reference.perform(word, start)
                numbers = [("lit", 1), *(source for source in start if source[0] == "lit")]
                for left, steps in all_distances(tuple(start), numbers, 4).items():
                    if len(left) <= 3:
                        self.assertEqual(steps_to_go(program, step, Effect(3, left)), steps)

    def test_far_programs(self):
        rng = random.Random(350)
        for text in (*makers.far_texts(351, 30), NESTED):
            program = Program(text)
            for step in (0, 1, program.steps - 1, program.steps, rng.randint(0, program.steps)):
                state = effect_at(program, step)
                for goal in (effect_of(program), state, Effect(*makers.pair(rng, 12)), NOTHING):
                    self.assertEqual(steps_to_go(program, step, goal), to_go(state.taken, state.left, goal))
                self.assertEqual(steps_to_go(program, step, state), 0)
                self.assertLessEqual(steps_to_go(program, step, effect_of(program)), program.steps - step)

    def test_deep_cells(self):
        # 100 cells are taken and more than 100 would be there on the way: the formula holds all the same.
        marks = reference.marks(100)
        table = [
            (Program("( 1 )100"), 100, Effect(100, tuple(marks[1:] + marks[:1])), 101),
            (Program("( 1 )100"), 100, Effect(0, ()), 100),
            (Program("( 1 )50"), 50, Effect(0, (("lit", 2),) * 50), 100),
            (Program("r99"), 1, Effect(100, tuple(marks[::-1])), 99),
            (Program(""), 0, Effect(100, tuple(marks[::-1])), 99),
            (Program(""), 0, Effect(100, ()), 100),
            (Program("d"), 1, NOTHING, None),
            (Program("p98"), 1, Effect(99, tuple(marks[2:])), 3),
        ]
        for program, step, goal, expected in table:
            found = steps_to_go(program, step, goal)
            state = effect_at(program, step)
            self.assertEqual(found, to_go(state.taken, state.left, goal))
            self.assertEqual(found, expected, program.text)

    def test_by_hand(self):
        table = [("p0 d d 7", 2, "", 0), ("p0 d d 7", 3, "", None), ("1 2", 2, "1", 1), ("1 2", 2, "2", 2),
                 ("1 2", 2, "2 1", 1), ("r1", 1, "", 1), ("p0", 1, "", 1), ("d", 1, "d 5", 1), ("d", 1, "r1 d", None),
                 ("5 r1", 2, "", 2), ("5 5 r2", 3, "5", 3)]
        for text, step, goal, expected in table:
            self.assertEqual(steps_to_go(Program(text), step, effect_of(Program(goal))), expected, (text, goal))


class LostFromTest(Case):
    def expected(self, text, effect):
        """Return the first step of a walk at which the effect cannot be reached any more, or None."""
        height = reference.sizes(reference.read(text))[0]
        needed = [("in", depth) for depth in range(height)
                  if depth >= effect.taken or ("in", depth) in effect.left]
        for step, cells in first_states(text):
            if any(source not in cells for source in needed):
                return step
        return None

    def goals(self, rng, program):
        yield effect_of(program)
        yield NOTHING
        for most in (2, 4, 9, 100):
            yield Effect(*makers.pair(rng, most))
        yield Effect(program.need, ())
        yield Effect(min(program.need, 100), tuple(("in", depth) for depth in range(program.need) if depth % 2))

    def test_small_programs(self):
        rng = random.Random(352)
        for text in small_texts(353, 150):
            program = Program(text)
            for effect in self.goals(rng, program):
                found = lost_from(program, effect)
                self.assertEqual(found, self.expected(text, effect), (text, effect.left))
                if program.steps < 30:
                    reached = [steps_to_go(program, step, effect) is not None for step in range(program.steps + 1)]
                    self.assertEqual(reached, [found is None or step < found for step in range(program.steps + 1)])

    def test_far_programs(self):
        rng = random.Random(354)
        for text in looping_texts(355, 100):
            program = Program(text)
            for effect in self.goals(rng, program):
                self.assertEqual(lost_from(program, effect), self.expected(text, effect), (text, effect.left))

    def test_what_is_found_holds(self):
        rng = random.Random(356)
        found_some = 0
        for text in (*makers.far_texts(357, 40), NESTED):
            program = Program(text)
            for effect in self.goals(rng, program):
                found = lost_from(program, effect)
                if found is None:
                    self.assertIsNotNone(steps_to_go(program, program.steps, effect))
                    continue
                found_some += 1
                self.assertIsNotNone(steps_to_go(program, found - 1, effect))
                for step in (found, found + 1, program.steps, rng.randint(found, program.steps)):
                    if step <= program.steps:
                        self.assertIsNone(steps_to_go(program, step, effect))
        self.assertGreater(found_some, 30)

    def test_what_the_program_itself_does_is_never_lost(self):
        for text in (*small_texts(358, 60), *makers.far_texts(359, 30), NESTED):
            program = Program(text)
            self.assertIsNone(lost_from(program, effect_of(program)))

    def test_by_hand(self):
        turn, drop = Program("r1") * MOST, Program(f"( r2 ){MOST} ( p0 r2 d ){MOST}")
        table = [
            (Program("p0 d d 7"), NOTHING, 3), (turn, effect_of(Program("r1")), None), (Program(""), NOTHING, None),
            (Program("d"), NOTHING, 1), (Program("d"), Effect(1, ()), None), (Program("d"), Effect(1, (("in", 0),)), 1),
            (Program("r3 d"), Effect(3, ()), 2), (Program("r3 d"), Effect(4, (("in", 0),)), None),
            (drop, NOTHING, MOST + 3), (drop, Effect(3, (("in", 0), ("in", 1))), MOST + 3),
            (drop, Effect(3, (("in", 2), ("in", 1))), None), (Program(f"( r9 p0 r9 d ){MOST}"), NOTHING, 4),
        ]
        for program, effect, expected in table:
            self.assertEqual(lost_from(program, effect), expected, program.text)

    def test_lost_in_late_passes(self):
        # Each pass drops the deepest but keep ones: the first inputs go at once, the others one a pass.
        for keep in (2, 30, 97):
            program = Program(f"( 5 r{keep} d ){MOST}")
            for depth in (0, 1, keep // 2, keep - 1):
                left = tuple(("in", at) for at in range(depth, -1, -1))
                self.assertEqual(lost_from(program, Effect(keep, left)), 3 * (keep - depth))
            self.assertIsNone(lost_from(program, Effect(keep, ())))


class WrongTest(Case):
    def test_wrong_arguments(self):
        for call in (fewest_for, program_for, can_undo):
            self.check_errors(call, effects())
        self.check_errors(undo_for, effects(Effect(2, (("in", 0), ("in", 1)))))
        for text in ("", "1 ( r2 )4 d", NESTED):
            program = Program(text)
            self.check_errors(steps_to_go, programs(program), steps_of(program, program.steps), effects())
            self.check_errors(lost_from, programs(program), effects())

    def test_error_names(self):
        self.fails(InvalidEffect, lambda: undo_for(None))
        self.fails(InvalidProgram, lambda: steps_to_go(None, -1, None))
        self.fails(NotPlain, lambda: lost_from(Program("{ | }"), None))
        self.fails(InvalidStep, lambda: steps_to_go(Program("r1"), 2, None))
        self.fails(InvalidEffect, lambda: lost_from(Program("r1"), Program("r1")))

    def test_the_same_again(self):
        effect, program = Effect(3, (("in", 1), ("in", 0), ("lit", 4))), Program("r2 d 4")
        shown = makers.shown(effect) + makers.shown(program)
        for turn in range(3):
            self.assertTrue(program_for(effect) == program_for(Effect(3, effect.left)))
            self.assertEqual((fewest_for(effect), can_undo(effect)), (3, False))
            self.assertEqual((steps_to_go(program, 1, effect), lost_from(program, effect)), (2, None))
        self.assertEqual(makers.shown(effect) + makers.shown(program), shown)
