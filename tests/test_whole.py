"""[1], [2], [4], [7] to [15]: what holds over the whole program, where several modules tell of the same."""

import random

from stackworks.console import Console
from stackworks.decisions import certain_source, choices_for, effects_of, is_decided, possible_sources
from stackworks.effects import Effect, effect_of, same_effect
from stackworks.moments import effect_at, next_at, place_at, stack_at
from stackworks.origins import arrived_at, first_with, origin_at
from stackworks.powers import cell_after, first_time
from stackworks.programs import Program, word_at, written
from stackworks.sessions import Session
from stackworks.shorten import saved, shorten, shortest
from stackworks.shuffles import fewest, plan, shuffled
from stackworks.stacks import run, states
from stackworks.undoing import can_undo, fewest_for, lost_from, program_for, steps_to_go, undo_for
from stackworks.units import link, unit, unit_effect, unit_names, unit_steps
from tests import makers, reference
from tests.cases import MOST, Case, small_texts


def small_programs(seed, count, most=25):
    """Return plain programs of which several, one behind the other, are not too high."""
    found = []
    for text in small_texts(seed, 4 * count, length=10):
        program = Program(text)
        if program.need + program.rise <= most and len(found) < count:
            found.append(program)
    return found


class LinkedTest(Case):
    def test_units_programs_and_effects(self):
        rng = random.Random(421)
        done = 0
        while done < 60:
            source_text = makers.source_text(rng, rng.randint(2, 6), 5, 2, False, (2, 3, 5))
            try:
                programs = {name: unit(source_text, name) for name in unit_names(source_text)}
                last = link(source_text)
            except ValueError:
                continue
            done += 1
            for name, program in programs.items():
                self.assertEqual(unit_steps(source_text, name), program.steps)
                self.assertTrue(unit_effect(source_text, name) == effect_of(program))
                self.assertTrue(effect_of(shorten(program)) == unit_effect(source_text, name))
                self.assertIsNone(lost_from(program, unit_effect(source_text, name)))
                self.assertEqual(steps_to_go(program, program.steps, unit_effect(source_text, name)), 0)
            total = effect_of(Program(""))
            for word in source_text.split("\n")[-1].split(" "):
                if not any(sign in word for sign in "()"):
                    part = programs[word] if word in programs else Program(word) if word else Program("")
                    total = total + effect_of(part)
            if "(" not in source_text.split("\n")[-1]:
                self.assertTrue(total == effect_of(last))

    def test_sums_of_programs(self):
        rng = random.Random(422)
        programs = small_programs(423, 40)
        for turn in range(120):
            one, other = rng.choice(programs), rng.choice(programs)
            both = one + other
            self.assertTrue(effect_of(both) == effect_of(one) + effect_of(other))
            stack = tuple(range(1000, 1000 + both.need))
            middle = run(one, stack)
            self.assertEqual(run(both, stack), run(other, middle))
            session = Session(both, stack)
            self.assertEqual((session.go(one.steps), session.go(both.steps)), (middle, run(other, middle)))
            step = rng.randint(0, other.steps)
            self.assertEqual(stack_at(both, one.steps + step, stack), stack_at(other, step, middle))
            self.assertEqual(saved(both) >= saved(one) + saved(other), True)
            self.assertLessEqual(fewest_for(effect_of(both)), fewest_for(effect_of(one)) + fewest_for(effect_of(other)))
            for depth in range(5):
                first = first_with(one, depth, ("in", 1))
                if first is not None:
                    self.assertEqual(first_with(both, depth, ("in", 1)), first)
            if can_undo(effect_of(one)) and can_undo(effect_of(other)):
                self.assertTrue(can_undo(effect_of(both)))
                back = undo_for(effect_of(other)) + undo_for(effect_of(one))
                self.assertTrue(same_effect(both + back, Program("")))
                self.assertLessEqual(undo_for(effect_of(both)).steps, back.steps)
            lost = lost_from(both, Effect(0, ()))
            self.assertEqual(lost is None, can_undo(effect_of(both)))

    def test_a_part_with_the_same_effect(self):
        rng = random.Random(424)
        programs = small_programs(425, 40)
        choosing = [Program("{ r1 | }"), Program("{ p0 | 7 }"), Program("( { r1 | r2 } )3"),
                    Program(f"( {{ r2 | }} ){MOST}")]
        for turn in range(80):
            middle = rng.choice(programs)
            other = rng.choice([shorten, shortest, lambda one: program_for(effect_of(one))])(middle)
            self.assertTrue(same_effect(middle, other))
            before, behind = rng.choice(programs + choosing), rng.choice(programs + choosing)
            whole, new = before + middle + behind, before + other + behind
            for depth in range(6):
                self.assertEqual(possible_sources(whole, depth), possible_sources(new, depth))
                self.assertEqual(certain_source(whole, depth), certain_source(new, depth))
            self.assertEqual(is_decided(whole), is_decided(new))
            if whole.is_plain:
                stack = tuple(range(50))
                self.assertTrue(same_effect(whole, new))
                self.assertEqual(run(whole, stack), run(new, stack))
                self.assertEqual(shortest(whole).steps, shortest(new).steps)
                many, again = whole * MOST if whole.growth == 0 else whole, new * MOST if new.growth == 0 else new
                self.assertTrue(effect_of(many) == effect_of(again))
            elif MOST not in [int(word[1:]) for word in whole.text.split(" ") if word[0] == ")"]:
                self.assertEqual(effects_of(whole), effects_of(new))


class StepsTest(Case):
    def test_the_steps_of_plans(self):
        rng = random.Random(426)
        for turn in range(100):
            labels = [1, 2, 3, 4, 5]
            pile = tuple(rng.choice(labels) for place in range(rng.randint(0, 7)))
            goal = tuple(rng.choice(labels) for place in range(rng.randint(0, 7)))
            found = plan(pile, goal)
            session, yielded = Session(found, pile), list(states(found, pile))
            self.assertEqual(len(yielded), fewest(pile, goal) + 1)
            for step, word in enumerate(written(found)):
                self.assertEqual((session.stack, session.step), (yielded[step], step))
                self.assertEqual((word_at(found, step), place_at(found, step)), (word, (step, [])))
                self.assertEqual(shuffled(pile, Program(" ".join(written(found)[:step]))), session.stack)
                # Each step of a plan leads one step nearer to the goal.
                self.assertEqual(fewest(session.stack, goal), found.steps - step)
                session.ahead()
            self.assertEqual((session.stack, yielded[-1]), (goal, goal))

    def test_the_steps_of_programs_for_effects(self):
        rng = random.Random(427)
        for turn in range(150):
            effect = Effect(*makers.pair(rng, rng.choice([2, 5, 12])))
            program = program_for(effect)
            for step in range(program.steps + 1):
                self.assertEqual(steps_to_go(program, step, effect), program.steps - step)
            self.assertIsNone(lost_from(program, effect))
            self.assertTrue(shorten(program) == program)
            self.assertEqual(saved(program), 0)

    def test_sessions_and_moments(self):
        rng = random.Random(428)
        for text in (*small_texts(429, 30), *makers.far_texts(430, 20)):
            program = Program(text)
            stack = tuple(range(program.need))
            session = Session(program, stack)
            for turn in range(6):
                step = rng.randint(0, program.steps)
                found = session.go(step)
                self.assertEqual(found, stack_at(program, step, stack))
                effect = effect_at(program, step)
                self.assertEqual(found, effect(stack))
                for depth, cell in enumerate(reversed(found)):
                    origin = origin_at(program, step, depth)
                    self.assertEqual(origin[:2], effect.source(depth))
                    self.assertEqual(cell, stack[-1 - origin[1]] if origin[0] == "in" else origin[1])
                if step < program.steps:
                    index = place_at(program, step)[0]
                    self.assertEqual(program.text.split(" ")[index], word_at(program, step))
                    self.assertEqual(next_at(program, step, index), step)

    def test_powers_and_repeats(self):
        rng = random.Random(431)
        for program in small_programs(432, 50):
            if program.growth != 0 or len(program) == 0:
                continue
            effect, many = effect_of(program), program * MOST
            for depth in range(program.need + 2):
                done = rng.choice([0, 1, 2, 7, MOST])
                self.assertEqual(effect_at(many, done * program.steps).source(depth), cell_after(effect, done, depth))
                for source in [("in", at) for at in range(program.need + 1)]:
                    times, first = first_time(effect, depth, source), first_with(many, depth, source)
                    if times is not None:
                        self.assertLessEqual(first, times * program.steps)

    def test_consoles_and_sessions(self):
        rng = random.Random(433)
        for text in small_texts(434, 30):
            program = Program(text)
            if program.need == 0:
                continue
            stack = tuple(rng.randint(-9, 9) for cell in range(program.need))
            console, session = Console(), Session(program, stack)
            console.say("open " + text)
            console.say("stack " + " ".join(map(str, stack)))
            for step in (program.steps, 0, program.steps // 2):
                self.assertEqual(console.say(f"go {step}"), " ".join(map(str, session.go(step))) or "-")
                self.assertEqual(console.say("left"), str(steps_to_go(program, step, effect_of(program))))


class ChoosingTest(Case):
    def test_choices_effects_and_runs(self):
        for program in choosing_programs(435, 60):
            for depth in range(program.need + 2):
                for source in possible_sources(program, depth):
                    choices = choices_for(program, depth, source)
                    effect = effect_of(program, choices=choices)
                    self.assertEqual(effect.source(depth), source)
                    stack = tuple(range(program.need))
                    self.assertEqual(run(program, stack, choices=choices), effect(stack))
            listed = effects_of(program)
            self.assertIs(is_decided(program), len(listed) == 1)
            short = shorten(program)
            self.assertEqual({one[:2] for one in effects_of(short)}, {one[:2] for one in listed})


def choosing_programs(seed, count):
    """Return programs with at most 10 choices."""
    found = []
    for text in small_texts(seed, 4 * count, 200, True, 12):
        program = Program(text)
        if not program.is_plain and len(found) < count:
            try:
                effects_of(program)
            except ValueError:
                continue
            found.append(program)
    return found


class NothingChangesTest(Case):
    def test_arguments_stay_as_they_are(self):
        program, choosing = Program("1 ( r2 p0 d )4 d"), Program("( { r1 | r2 } )3")
        effect = Effect(2, (("in", 0), ("in", 1)))
        stack, pile, goal = (1, 2, 3), ("a", 2, "b"), ("b", "a", 7)
        before = [makers.shown(one) for one in (program, choosing, effect)]
        results = []
        for turn in range(2):
            results.append([
                origin_at(program, 5, 1), arrived_at(program, 5, 1), first_with(program, 0, ("lit", 1)),
                shuffled(pile, program), fewest(pile, goal), plan(pile, goal).text, fewest_for(effect),
                program_for(effect).text, can_undo(effect), undo_for(effect).text, steps_to_go(program, 4, effect),
                lost_from(program, effect), possible_sources(choosing, 1), certain_source(choosing, 5),
                is_decided(choosing), choices_for(choosing, 0, ("in", 1)), effects_of(choosing), shortest(program).text,
                shorten(choosing).text, saved(program), Session(program, stack).go(4),
            ])
        self.assertEqual(results[0], results[1])
        self.assertEqual([makers.shown(one) for one in (program, choosing, effect)], before)
        self.assertEqual((stack, pile, goal), ((1, 2, 3), ("a", 2, "b"), ("b", "a", 7)))
        self.assertTrue(program == Program("1 ( r2 p0 d )4 d") and effect == Effect(2, (("in", 0), ("in", 1))))

    def test_equal_arguments_give_equal_results(self):
        for text in (*small_texts(436, 20), *makers.far_texts(437, 10)):
            one, other = Program(text), Program(text)
            # What one of them has been asked before does not matter.
            origin_at(one, one.steps, 0), possible_sources(one, 0), arrived_at(one, one.steps, 2), shorten(one)
            for depth in range(4):
                self.assertEqual(origin_at(other, one.steps, depth), origin_at(one, one.steps, depth))
                self.assertEqual(arrived_at(other, one.steps, depth), arrived_at(one, one.steps, depth))
                self.assertEqual(possible_sources(other, depth), possible_sources(one, depth))
            self.assertTrue(one == other and effect_of(one) == effect_of(other))


class CutTest(Case):
    def test_effects_are_equal_exactly_if_stacks_are(self):
        programs = small_programs(438, 40, 12)
        stack = tuple(range(100, 130))
        for one in programs:
            for other in programs:
                self.assertEqual(same_effect(one, other), run(one, stack) == run(other, stack))
                found, wanted = effect_of(one), reference.effect_of_row(reference.all_words(reference.read(one.text)))
                self.assertEqual((found.taken, found.left), wanted)
