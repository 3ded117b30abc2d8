"""[2], [9], [10], [14], section 10: origin_at, arrived_at and first_with."""

import random

from stackworks.effects import effect_of
from stackworks.errors import InvalidDepth, InvalidProgram, InvalidSource, InvalidStep, NotPlain
from stackworks.moments import effect_at
from stackworks.origins import arrived_at, first_with, origin_at
from stackworks.programs import Program, word_at
from stackworks.stacks import run
from tests import makers, reference
from tests.cases import MOST, Case, depths, first_states, looping_texts, programs, small_texts, source_in
from tests.cases import sources, steps_of, walk

NESTED = "( " * 12 + "r2 7 p3 r5 d d" + f" ){MOST}" * 12
# Programs whose cells arrive in far passes, in rings, and only behind the last one of them.
FAR = [f"( r2 ){MOST}", f"5 ( r3 r1 ){MOST} d", f"( p2 r4 d ( r5 ){MOST} ){MOST} 1", f"( 7 ( d p1 ){MOST} r2 d ){MOST}",
       f"( ( r97 )97 r3 ){MOST}", "( p0 )40 ( r30 d )40", f"( 1 )9 ( r9 r5 ){MOST - 1} ( d )4", NESTED]


def moved_depth(word, depth):
    """Return the depth of a cell before an instruction, None if it arrives by it."""
    if word == "d":
        return depth + 1
    if depth == 0:
        return None
    if word[0] == "r":
        return depth - 1 if depth <= int(word[1:]) else depth
    return depth - 1


def tracked(words, need):
    """Yield the lists of the tuples (origin, number of the step of arrival) of all cells, from the bottom up."""
    cells = [(("in", depth), None) for depth in range(need - 1, -1, -1)]
    yield cells
    for number, word in enumerate(words):
        cells = list(cells)
        if word == "d":
            cells.pop()
        elif word[0] == "p":
            cells.append((cells[-1 - int(word[1:])][0], number))
        elif word[0] == "r":
            cells.append((cells.pop(-1 - int(word[1:]))[0], number))
        else:
            cells.append((("lit", int(word), number), number))
        yield cells


def some_steps(rng, steps, count):
    found = [at for at in (0, 1, 2, steps // 2, steps - 1, steps) if 0 <= at <= steps]
    return found + [rng.randint(0, steps) for turn in range(count)]


class OriginTest(Case):
    def test_each_cell_behind_each_step(self):
        for text in small_texts(301, 90):
            program, words = Program(text), reference.all_words(reference.read(text))
            for step, cells in enumerate(tracked(words, program.need)):
                for depth, (origin, number) in enumerate(reversed(cells)):
                    self.assertEqual(origin_at(program, step, depth), origin, (text, step, depth))
                    self.assertEqual(arrived_at(program, step, depth), number, (text, step, depth))
                for below in (0, 1, 7, 100, MOST, 10 ** 399):
                    depth = len(cells) + below
                    self.assertEqual(origin_at(program, step, depth), ("in", program.need + below))
                    self.assertIsNone(arrived_at(program, step, depth))

    def test_far_steps_follow_from_the_steps_before(self):
        rng = random.Random(302)
        for text in (*makers.far_texts(303, 40), *FAR):
            program = Program(text)
            for step in some_steps(rng, program.steps - 1, 6):
                word = word_at(program, step)
                for depth in (0, 1, 2, rng.randint(0, 9), rng.randint(0, 99), rng.randint(0, 10 ** 31)):
                    before = moved_depth(word, depth)
                    found = arrived_at(program, step + 1, depth)
                    self.assertEqual(found, step if before is None else arrived_at(program, step, before))
                    found = origin_at(program, step + 1, depth)
                    if before is not None:
                        self.assertEqual(found, origin_at(program, step, before))
                    elif word[0] in "pr":
                        self.assertEqual(found, origin_at(program, step, int(word[1:])))
                    else:
                        self.assertEqual(found, ("lit", int(word), step))

    def test_far_origins_are_the_sources_of_effects(self):
        rng = random.Random(304)
        for text in (*makers.far_texts(305, 40), *FAR):
            program = Program(text)
            for step in some_steps(rng, program.steps, 4):
                effect = effect_at(program, step)
                for depth in (*range(12), 40, 99, 200):
                    origin, number = origin_at(program, step, depth), arrived_at(program, step, depth)
                    self.assertEqual(origin[:2], effect.source(depth))
                    if number is not None:
                        self.assertTrue(0 <= number < step)
                        self.assertNotEqual(word_at(program, number), "d")
                        # Behind that step the cell is on top.
                        self.assertEqual(origin_at(program, number + 1, 0), origin)
                    else:
                        self.assertEqual(origin[0], "in")
                    if origin[0] == "lit":
                        self.assertEqual(word_at(program, origin[2]), str(origin[1]))
                        self.assertTrue(0 <= origin[2] <= number)

    def test_by_hand(self):
        turn, push = Program(f"( r2 ){MOST}"), Program(f"( 5 ( r1 ){MOST} r2 d ){MOST}")
        table = [
            (origin_at(turn, MOST, 0), ("in", 2)), (arrived_at(turn, MOST, 0), MOST - 1),
            (arrived_at(turn, MOST, 2), MOST - 3), (arrived_at(turn, MOST, 3), None),
            (arrived_at(turn, 2, 2), None), (arrived_at(turn, 2, 1), 0), (arrived_at(turn, 0, 0), None),
            (origin_at(push, 1, 0), ("lit", 5, 0)), (origin_at(push, MOST + 3, 0), ("lit", 5, 0)),
            (origin_at(push, MOST + 3, 1), ("in", 0)), (origin_at(push, 2 * (MOST + 3), 1), ("lit", 5, 0)),
            (origin_at(push, 2 * (MOST + 3), 0), ("lit", 5, MOST + 3)), (arrived_at(push, MOST + 3, 1), MOST - 1),
            (origin_at(Program("5 p0 p0"), 3, 0), ("lit", 5, 0)), (arrived_at(Program("5 p0 p0"), 3, 0), 2),
            (origin_at(Program("5 d 5"), 3, 0), ("lit", 5, 2)), (arrived_at(Program("5 7 d"), 3, 0), 0),
            (origin_at(Program("-3"), 1, 0), ("lit", -3, 0)),
            (origin_at(Program(""), 0, 10 ** 399), ("in", 10 ** 399)), (arrived_at(Program(""), 0, 0), None),
            # Moved away and back, the cell below lies still.
            (arrived_at(Program("r1 r1"), 2, 0), 1), (arrived_at(Program("r1 r1"), 2, 1), 0),
            (arrived_at(Program("r1 r1"), 2, 2), None),
        ]
        for at, (found, expected) in enumerate(table):
            self.assertEqual(found, expected, at)

    def test_constants_of_far_passes(self):
        program = Program(f"( 1 r9 d 2 r8 d ){MOST}")
        for done in (0, 1, 5, 10 ** 29, MOST - 1):
            for depth in range(9):
                kind, *rest = origin_at(program, 6 * done, depth)
                if done >= 5:
                    self.assertEqual((kind, rest[0], rest[1] % 3), ("lit", 1 if rest[1] % 6 == 0 else 2, 0))
                    self.assertEqual(arrived_at(program, 6 * done, depth), rest[1])

    def test_cells_that_lie_still_in_all_passes(self):
        program = Program(f"9 p3 ( r1 p0 d ){MOST} ( r2 r2 r2 ){MOST}")
        self.assertEqual([arrived_at(program, 3 * MOST + 2, depth) for depth in range(4)],
                         [3 * MOST - 1, 3 * MOST - 4, None, None])
        self.assertEqual([arrived_at(program, 2 + 3 * done, 1) for done in (1, 2, 3, MOST)],
                         [1, 2, 5, 3 * MOST - 4])
        self.assertIsNone(arrived_at(program, program.steps, 3))
        self.assertEqual([arrived_at(program, program.steps, depth) for depth in range(3)],
                         [program.steps - 1, program.steps - 2, program.steps - 3])

    def test_linked_programs(self):
        rng = random.Random(306)
        texts = list(small_texts(307, 40, length=10))
        for turn in range(40):
            one, other = Program(rng.choice(texts)), Program(rng.choice(texts))
            if one.need + one.rise + other.need + other.rise > 50:
                continue
            both = one + other
            for depth in range(8):
                number, behind = arrived_at(both, both.steps, depth), arrived_at(other, other.steps, depth)
                if behind is not None:
                    self.assertEqual(number, one.steps + behind)
                else:
                    # The cell lies still in the second program, below all that arrives.
                    self.assertTrue(number is None or number < one.steps)
                origin = origin_at(other, other.steps, depth)
                if origin[0] == "lit":
                    self.assertEqual(origin_at(both, both.steps, depth), (*origin[:2], origin[2] + one.steps))
                else:
                    self.assertEqual(origin_at(both, both.steps, depth), origin_at(one, one.steps, origin[1]))


class FirstTest(Case):
    def test_small_programs(self):
        for text in small_texts(308, 80, 200):
            program, row = Program(text), reference.read(text)
            states = list(first_states(text, 3))
            height = reference.sizes(row)[0] + 3
            for depth in (0, 1, 2, 3, 5, height, height + 40):
                expected = {}
                cells = reference.marks(height)
                for step, word in enumerate(reference.all_words(row) + [None]):
                    expected.setdefault(source_in(cells, height, depth), step)
                    if word is not None:
                        reference.perform(word, cells)
                for source, step in expected.items():
                    self.assertEqual(first_with(program, depth, source), step, (text, depth, source))
                for source in (("in", 0), ("in", 1), ("in", depth), ("in", depth + 1), ("lit", 7), ("lit", -8),
                               ("in", MOST), ("in", 10 ** 399), ("lit", MOST)):
                    self.assertEqual(first_with(program, depth, source), expected.get(source))
            self.assertEqual(states[-1][0], program.steps)

    def test_far_programs(self):
        for text in (*looping_texts(309, 60), f"5 ( r3 r1 ){MOST} d", f"( r9 ){MOST} 3 ( r4 ){MOST}"):
            program = Program(text)
            height = program.need + 2
            for depth in (0, 1, 2, 4, height + 3, MOST):
                expected = {}
                for step, cells in first_states(text, 2):
                    expected.setdefault(source_in(cells, height, depth), step)
                for source in (*expected, *(("in", at) for at in range(6)), ("lit", 7), ("lit", 5), ("in", depth),
                               ("in", depth + 1), ("in", depth - 1 if depth else 9)):
                    self.assertEqual(first_with(program, depth, source), expected.get(source), (text, depth, source))

    def test_the_walk_is_right(self):
        # The walk leaves out only what is like something earlier.
        for text in small_texts(310, 60, 200):
            row = reference.read(text)
            cells, all_states = reference.marks(reference.sizes(row)[0]), []
            for step, word in enumerate(reference.all_words(row)):
                all_states.append((step, list(cells)))
                reference.perform(word, cells)
            found = [(step, list(state)) for step, state in walk(row, reference.marks(reference.sizes(row)[0]))]
            self.assertEqual([state for state in found if state not in all_states], [])
            self.assertEqual({tuple(state) for _, state in found}, {tuple(state) for _, state in all_states})

    def test_what_is_found_holds(self):
        rng = random.Random(311)
        for text in (*makers.far_texts(312, 30), *FAR):
            program = Program(text)
            for turn in range(8):
                depth, step = rng.choice([0, 1, 2, rng.randint(0, 99)]), rng.randint(0, program.steps)
                source = effect_at(program, step).source(depth)
                found = first_with(program, depth, source)
                self.assertLessEqual(found, step)
                self.assertEqual(effect_at(program, found).source(depth), source)
                self.assertTrue(found == 0 or effect_at(program, found - 1).source(depth) != source)

    def test_by_hand(self):
        far = Program(f"( ( r97 )97 r3 ){MOST}")
        table = [
            (Program(""), 0, ("in", 0), 0), (Program(""), 0, ("in", 1), None), (Program(""), MOST, ("in", MOST), 0),
            (Program("5"), 0, ("lit", 5), 1), (Program("5"), 1, ("in", 0), 1), (Program("5 5"), 1, ("lit", 5), 2),
            (Program("5 d 5"), 0, ("lit", 5), 1), (Program("d 5"), 0, ("lit", -5), None),
            (Program(f"( r2 ){MOST} 8"), 0, ("lit", 8), MOST + 1), (Program(f"( r2 ){MOST} 8"), 0, ("in", 1), 2),
            (Program(f"( r2 ){MOST} 8"), 1, ("in", 2), 1 + 1), (Program("( d )50"), 0, ("in", 50), 50),
            (Program("( d )50"), 0, ("in", 51), None), (Program("( d )50"), MOST, ("in", MOST + 49), 49),
            (Program("( 1 )50"), 10 ** 399, ("in", 10 ** 399 - 50), 50),
            (Program("( 1 )50"), 10 ** 399, ("in", 10 ** 399 - 51), None),
            (far, 0, ("in", 97), 1), (far, 0, ("in", 98), None),
        ]
        for program, depth, source, expected in table:
            self.assertEqual(first_with(program, depth, source), expected, (program.text, depth, source))

    def test_in_the_last_pass_of_all(self):
        # The constant comes up one cell a pass; the last pass of the last repeat brings it to the top.
        for count in range(2, 9):
            text = "( r9 )" + str(count)
            program = Program(f"3 {text}")
            for depth in range(10):
                steps = [step for step, cells in first_states(program.text) if source_in(cells, 9, depth) == ("lit", 3)]
                self.assertEqual(first_with(program, depth, ("lit", 3)), steps[0] if steps else None)


class WrongTest(Case):
    def test_wrong_arguments(self):
        for text in ("", "1 ( r2 )4 d", NESTED):
            program = Program(text)
            for call in (origin_at, arrived_at):
                self.check_errors(call, programs(program), steps_of(program, program.steps), depths(10 ** 399))
            self.check_errors(first_with, programs(program), depths(), sources())

    def test_valid_arguments_raise_nothing(self):
        program = Program(NESTED)
        for depth in (0, 5, 99, 100, MOST, 10 ** 399):
            for step in (0, 1, program.steps):
                origin_at(program, step, depth), arrived_at(program, step, depth)
            for source in (("in", 0), ("in", 10 ** 399), ("lit", MOST), ("lit", -MOST)):
                first_with(program, depth, source)

    def test_the_same_again(self):
        program, other = Program(FAR[2]), Program(FAR[2])
        shown = makers.shown(program)
        calls = [lambda one: [origin_at(one, one.steps - 3, depth) for depth in range(7)],
                 lambda one: [arrived_at(one, one.steps - 3, depth) for depth in range(7)],
                 lambda one: [first_with(one, depth, ("in", 2)) for depth in range(7)]]
        for call in calls + calls[::-1]:
            self.assertEqual(call(program), call(other))
        self.assertEqual(makers.shown(program), shown)
        self.assertTrue(effect_of(program) == effect_of(Program(FAR[2])))
        self.assertEqual(run(program, tuple(range(6))), run(other, tuple(range(6))))

    def test_error_names(self):
        self.fails(InvalidProgram, lambda: origin_at("r1", -1, -1))
        self.fails(NotPlain, lambda: arrived_at(Program("{ | }"), -1, -1))
        self.fails(InvalidStep, lambda: origin_at(Program("r1"), 2, -1))
        self.fails(InvalidDepth, lambda: first_with(Program("r1"), -1, ("in", -1)))
        self.fails(InvalidSource, lambda: first_with(Program("r1"), 0, ("in", -1)))
