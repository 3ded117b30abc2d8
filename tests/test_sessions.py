"""[5], [8], [9], [14], section 15: sessions."""

import random

from stackworks.effects import Effect, effect_of
from stackworks.errors import InvalidDepth, InvalidIndex, InvalidOperation, InvalidProgram, InvalidStack, InvalidStep
from stackworks.errors import InvalidText, InvalidValue, NoSuchStep, Nothing, NotPlain, ShortStack, StackError, TooHigh
from stackworks.moments import next_at, place_at, stack_at
from stackworks.programs import Program, word_at
from stackworks.sessions import Session
from stackworks.stacks import run
from tests import makers, reference
from tests.cases import CHOOSING, MOST, WRONG_TEXTS, Case, programs, small_texts, wrong_steps
from tests.test_effect_errors import NO_NUMBERS, WRONG_STACKS
from tests.test_moments import places

NESTED = "( " * 12 + "r2 7 p3 r5 d d" + f" ){MOST}" * 12
WRONG_VALUES = [*NO_NUMBERS, MOST + 1, -MOST - 1, 10 ** 399, -10 ** 399]
WRONG_OPERATIONS = [
    *reference.STRANGE, "", "go", 0, 1, (), ("go",), ("go", 1, 2), ["go", 1], ("ahead",), ("ahead", 1, 1), ("poke", 0),
    ("poke", 0, 1, 2), ("run_to",), ("run_to", 1, 2), ("undo",), ("undo", 1), ("log", 1), ("preview", 1), ("GO", 1),
    (None, 1), (1, 2), (("go",), 1), (["go"], 1), ({}, 1), (b"go", 1), ("step", 1), ("poke ", 0, 1), "go 1", {"go": 1},
    Program("r1"), Effect(0, ()), Session, (Session, 1), ("", 1), ("goto", 1),
]


class Model:
    """A session over a small program, that performs instruction by instruction."""

    def __init__(self, text, stack):
        self.words = reference.all_words(reference.read(text))
        self.order = [index for index, passes in places(reference.split(text))]
        self.start, self.base, self.step, self.past = tuple(stack), 0, 0, []

    def cells(self, step):
        cells = list(self.start)
        for word in self.words[self.base:step]:
            reference.perform(word, cells)
            if isinstance(cells[-1] if cells else 0, tuple):
                cells[-1] = cells[-1][1]
        return tuple(cells)

    def perform(self, operation):
        """Perform an operation that is right; return what the method returns."""
        held = (self.start, self.base, self.step)
        answer = self.answer(*operation)
        self.past.append((operation, held))
        return answer

    def answer(self, name, value, more=None):
        if name == "poke":
            cells = list(self.cells(self.step))
            old, cells[-1 - value] = cells[-1 - value], more
            self.start, self.base = tuple(cells), self.step
            return old
        if name == "run_to":
            self.step = self.order.index(value, self.step + 1)
            return self.step
        self.step = value if name == "go" else self.step + value
        return self.cells(self.step)

    def undo(self):
        self.start, self.base, self.step = self.past.pop()[1]

    def log(self):
        return [operation for operation, held in self.past]


def perform(session, operation):
    name, value, *more = operation
    if name == "ahead":
        return session.ahead(steps=value)
    return getattr(session, name)(value, *more)


def some_operation(rng, model):
    """Return an operation that is right for a model, or None."""
    kind, high = rng.randrange(5), len(model.cells(model.step))
    if kind == 0:
        return ("go", rng.randint(model.base, len(model.words)))
    if kind == 1 and model.step < len(model.words):
        return ("ahead", rng.randint(1, len(model.words) - model.step))
    if kind == 2 and model.order[model.step + 1:]:
        return ("run_to", rng.choice(model.order[model.step + 1:]))
    if kind == 3 and high:
        return ("poke", rng.randrange(high), rng.choice([0, 1, -1, MOST, -MOST, rng.randint(-99, 99)]))
    return None


def shown(session):
    return (session.program.text, session.stack, session.step, session.base, session.log(), len(session))


class SmallSessionTest(Case):
    def check_same(self, session, model, text):
        self.assertEqual(shown(session), (text, model.cells(model.step), model.step, model.base, model.log(),
                                          len(model.cells(model.step))))

    def test_against_instruction_by_instruction(self):
        rng = random.Random(401)
        for text in small_texts(402, 120, 120):
            program = Program(text)
            stack = makers.stack(rng, rng.randint(program.need, min(100, program.need + 4)))
            session, model = Session(program, stack), Model(text, stack)
            for turn in range(40):
                operation = some_operation(rng, model)
                if operation is not None:
                    self.assertEqual(perform(session, operation), model.perform(operation))
                elif model.past and rng.random() < 0.6:
                    self.assertIsNone(session.undo())
                    model.undo()
                else:
                    self.check_preview(rng, session, model)
                self.check_same(session, model, text)
            again = Session(program, stack)
            for operation in session.log():
                perform(again, operation)
            self.assertTrue(again == session)
            self.assertEqual(shown(again), shown(session))
            while model.past:
                session.undo()
                model.undo()
                self.check_same(session, model, text)
            self.assertTrue(session == Session(program, stack))
            self.fails(Nothing, session.undo)

    def check_preview(self, rng, session, model):
        before, operations = shown(session), []
        depth = len(model.past)
        for turn in range(rng.randint(0, 4)):
            operation = some_operation(rng, model)
            if operation is not None:
                operations.append(operation)
                model.perform(operation)
        expected = model.cells(model.step)
        while len(model.past) > depth:
            model.undo()
        self.assertEqual(session.preview(*operations), expected)
        self.assertEqual(shown(session), before)


class FarSessionTest(Case):
    def texts(self):
        return [*makers.far_texts(403, 25), NESTED, f"( r2 ){MOST}", "( d )50 ( 1 )90"]

    def test_go_without_pokes(self):
        rng = random.Random(404)
        for text in self.texts():
            program = Program(text)
            stack = makers.stack(rng, rng.randint(program.need, 100))
            session = Session(program, stack)
            self.assertEqual((session.stack, session.step, session.base, len(session)), (stack, 0, 0, len(stack)))
            for step in (program.steps, 0, 1, program.steps - 1, *(rng.randint(0, program.steps) for turn in range(5))):
                self.assertEqual(session.go(step), stack_at(program, step, stack))
                self.assertEqual((session.step, session.base), (step, 0))
                index = place_at(program, step)
                if step < program.steps:
                    more = rng.choice([1, program.steps - step, rng.randint(1, program.steps - step)])
                    self.assertEqual(session.preview(("ahead", more)), stack_at(program, step + more, stack))
                    found = next_at(program, step + 1, index[0])
                    if found is None:
                        self.fails(NoSuchStep, lambda: session.run_to(index[0]))
                    else:
                        self.assertEqual(session.run_to(index[0]), found)
                        self.assertEqual(session.stack, stack_at(program, found, stack))

    def test_steps_behind_pokes(self):
        rng = random.Random(405)
        for text in self.texts():
            program = Program(text)
            session = Session(program, tuple(range(100, 100 + program.need)))
            for turn in range(5):
                step = rng.randint(session.base, program.steps)
                session.go(step)
                if len(session):
                    depth, value = rng.randrange(len(session)), rng.randint(-99, 99)
                    before = session.stack
                    self.assertEqual(session.poke(depth, value), before[-1 - depth])
                    expected = list(before)
                    expected[-1 - depth] = value
                    self.assertEqual((session.stack, session.base), (tuple(expected), step))
                    self.fails(InvalidStep, lambda: session.go(step - 1))
                for later in (step, step + 1, program.steps - 1, rng.randint(step, program.steps)):
                    if step <= later < program.steps:
                        behind = session.preview(("go", later))
                        if len(behind) <= 100:
                            expected = run(Program(word_at(program, later)), behind)
                            self.assertEqual(session.preview(("go", later + 1)), expected)
                            self.assertEqual(session.preview(("go", later), ("ahead", 1)), expected)

    def test_pokes_at_the_ends_of_parts(self):
        rng = random.Random(406)
        parts = [f"( r3 r1 ){MOST}", f"( p2 r4 d ){MOST - 1} 7 r2 d", "( 5 r2 )9 ( d )9",
                 f"r5 ( r2 ( r3 ){MOST} ){MOST}"]
        for turn in range(30):
            one, other = Program(rng.choice(parts)), Program(rng.choice(parts))
            both = one + other
            stack = tuple(rng.sample(range(1000), both.need + 2))
            session = Session(both, stack)
            session.go(one.steps)
            depth = rng.randrange(len(session))
            session.poke(depth, -5)
            self.assertEqual(session.go(both.steps), run(other, session.preview(("go", one.steps))))
            session.undo()
            session.undo()
            self.assertEqual(session.go(both.steps), run(both, stack))

    def test_a_poke_in_a_far_pass(self):
        program = Program(f"( r2 ){MOST}")
        session = Session(program, (1, 2, 3))
        for step in (0, 1, 7, 10 ** 29, MOST - 4, MOST - 1):
            session.go(step)
            session.poke(1, 9)
            cells = session.stack
            for more in (0, 1, 2, 3, 4):
                if step + more <= MOST:
                    expected = cells[more % 3:] + cells[:more % 3]
                    self.assertEqual(session.go(step + more), expected)
        self.assertEqual(session.base, MOST - 1)

    def test_ahead_in_parts(self):
        rng = random.Random(407)
        for text in self.texts()[:12]:
            program = Program(text)
            stack = tuple(range(program.need))
            session = Session(program, stack)
            while session.step < program.steps:
                more = rng.randint(1, program.steps - session.step)
                self.assertEqual(session.ahead(steps=more), stack_at(program, session.step, stack))
            self.fails(InvalidStep, lambda: session.ahead(steps=1))
            self.fails(InvalidStep, session.ahead)

    def test_high_stacks(self):
        session = Session(Program("( 1 )100"), (0,) * 100)
        self.assertEqual(session.go(100), (0,) * 100 + (1,) * 100)
        self.assertEqual((len(session), session.poke(199, 5), session.stack[0]), (200, 0, 5))
        self.fails(InvalidDepth, lambda: session.poke(200, 5))
        self.assertEqual(session.go(100), (5,) + (0,) * 99 + (1,) * 100)


class SessionTest(Case):
    def test_by_hand(self):
        session = Session.of("1 ( r2 )4 d", 5, 6)
        self.assertEqual([session.ahead(), session.ahead(steps=2), session.go(1), session.go(0), session.run_to(2)],
                         [(5, 6, 1), (1, 5, 6), (5, 6, 1), (5, 6), 1])
        self.assertEqual([session.run_to(2), session.run_to(2), session.run_to(2)], [2, 3, 4])
        self.fails(NoSuchStep, lambda: session.run_to(2))
        self.assertEqual(session.log(), [("ahead", 1), ("ahead", 2), ("go", 1), ("go", 0), *[("run_to", 2)] * 4])
        self.assertEqual((session.poke(2, 0), session.base, session.stack), (5, 4, (0, 6, 1)))
        self.assertEqual((session.go(6), session.go(4)), ((6, 1), (0, 6, 1)))
        for turn in range(3):
            session.undo()
        self.assertEqual((session.step, session.base, session.stack), (4, 0, (5, 6, 1)))

    def test_pokes(self):
        session = Session.of("r1", 1, 2, 3)
        self.assertEqual([session.poke(0, MOST), session.poke(2, -MOST), session.poke(0, 0)], [3, 1, MOST])
        self.assertEqual((session.stack, session.step, session.base), ((-MOST, 2, 0), 0, 0))
        self.assertEqual(session.go(1), (-MOST, 0, 2))
        self.assertEqual((session.poke(1, 7), session.base), (0, 1))
        self.fails(InvalidStep, lambda: session.go(0))
        self.assertEqual(session.log(), [("poke", 0, MOST), ("poke", 2, -MOST), ("poke", 0, 0), ("go", 1),
                                         ("poke", 1, 7)])
        session.undo()
        self.assertEqual((session.go(0), session.base), ((-MOST, 2, 0), 0))

    def test_run_to_a_later_step(self):
        program = Program(f"r1 ( r2 ( r3 )3 r4 ){MOST} r5")
        session = Session(program, tuple(range(6)))
        self.assertEqual([session.run_to(4), session.run_to(4), session.run_to(4), session.run_to(4), session.run_to(2),
                          session.run_to(8)], [2, 3, 4, 7, 11, 5 * MOST + 1])
        for index in (0, 2, 4, 6, 8):
            self.fails(NoSuchStep, lambda: session.run_to(index))
        session.go(program.steps)
        for index in (0, 2, 4, 6, 8):
            self.fails(NoSuchStep, lambda: session.run_to(index))
        session.go(0)
        self.fails(NoSuchStep, lambda: session.run_to(0))

    def test_equality(self):
        one, other = Session.of("r1 r1", 1, 1), Session.of("r1 r1", 1, 1)
        self.assertTrue(one == other)
        one.go(1)
        self.assertFalse(one == other)
        self.assertEqual(one.stack, other.stack)
        other.ahead()
        self.assertTrue(one == other)
        # Base and log do not matter, the stack does.
        other.poke(0, 1)
        self.assertTrue(one == other and not one != other)
        other.poke(0, 2)
        self.assertFalse(one == other)
        self.assertFalse(Session.of("r1 r1", 1, 1) == Session.of("r1 r1 p0", 1, 1))
        self.assertFalse(Session.of("") == Session.of("", 1))
        self.assertFalse(Session.of("d", 1) == Session.of("p0", 1))
        for value in [*reference.STRANGE, 0, "", (), (1, 1), Program("r1 r1"), Effect(0, ()), Session]:
            self.assertFalse(one == value)
            self.assertTrue(one != value)

    def test_of(self):
        session = Session.of("p0 r1", 4, -5)
        self.assertIsInstance(session, Session)
        self.assertTrue(session == Session(Program("p0 r1"), (4, -5)))
        self.assertEqual(Session.of("").stack, ())
        self.assertEqual(Session.of("( d )12", *range(12)).stack, tuple(range(12)))
        self.assertEqual((Session.MOST, session.MOST), (100, 100))

    def test_the_program_is_the_same(self):
        program = Program("r1")
        session = Session(program, (1, 2))
        self.assertIs(session.program, program)
        self.assertEqual([session.program, session.stack, session.step, session.base], [program, (1, 2), 0, 0])
        for name in ("program", "stack", "step", "base"):
            with self.assertRaises(AttributeError):
                setattr(session, name, 0)

    def test_lists_and_stacks_are_new(self):
        session = Session.of("r1 r1", 1, 2)
        session.go(1)
        session.log().clear()
        session.log().append(("go", 2))
        self.assertEqual(session.log(), [("go", 1)])
        self.assertIsNot(session.log(), session.log())
        self.assertEqual([type(session.log()), type(session.log()[0]), type(session.stack)], [list, tuple, tuple])

    def test_many_calls(self):
        session = Session.of(f"( r1 ){MOST}", 1, 2)
        for turn in range(100):
            session.ahead(steps=turn + 1)
        self.assertEqual((session.step, len(session.log())), (5050, 100))
        for turn in range(100):
            session.undo()
        self.assertEqual((session.step, session.log()), (0, []))

    def test_sessions_do_not_share_anything(self):
        program, stack = Program("r1 r1"), (1, 2)
        one, other = Session(program, stack), Session(program, stack)
        one.go(1)
        one.poke(0, 7)
        self.assertEqual(shown(other), ("r1 r1", (1, 2), 0, 0, [], 2))
        self.assertEqual((program.text, stack), ("r1 r1", (1, 2)))


class PreviewTest(Case):
    def test_by_hand(self):
        session = Session.of("1 ( r2 )4 d", 5, 6)
        session.go(2)
        before = shown(session)
        table = [((), (6, 1, 5)), ((("go", 0),), (5, 6)), ((("poke", 0, 9), ("ahead", 1)), (1, 9, 6)),
                 ((("run_to", 4), ("poke", 2, 8), ("ahead", 1)), (8, 1)), ((("ahead", 4),), (6, 1))]
        for operations, expected in table:
            self.assertEqual(session.preview(*operations), expected)
            self.assertEqual(shown(session), before)

    def test_errors_of_the_operations_in_order(self):
        session = Session.of("1 ( r2 )4 d", 5, 6)
        session.go(2)
        session.poke(0, 5)
        before = shown(session)
        table = [
            ([("go", 1)], InvalidStep), ([("go", 7)], InvalidStep), ([("go", None)], InvalidStep),
            ([("ahead", 0)], InvalidStep), ([("ahead", 5)], InvalidStep), ([("ahead", True)], InvalidStep),
            ([("run_to", 1)], InvalidIndex), ([("run_to", 0)], NoSuchStep), ([("run_to", [])], InvalidIndex),
            ([("poke", 3, 0)], InvalidDepth), ([("poke", 0, MOST + 1)], InvalidValue),
            ([("poke", -1, None)], InvalidDepth), ([("poke", 0, ("a",))], InvalidValue),
            ([("go", 4), ("poke", 0, 1), ("go", 3)], InvalidStep), ([("go", 6), ("ahead", 1)], InvalidStep),
            ([("go", 6), ("poke", 2, 0)], InvalidDepth), ([("go", 5), ("run_to", 4)], NoSuchStep),
            ([("poke", 9, 9), ("go", 9)], InvalidDepth), ([("go", 9), ("poke", 9, 9)], InvalidStep),
            ([("go", 9), ("undo",)], InvalidOperation), ([("undo",), ("go", 9)], InvalidOperation),
        ]
        for operations, error in table:
            self.fails(error, lambda: session.preview(*operations))
            self.assertEqual(shown(session), before)
        self.assertEqual(session.preview(("go", 2)), before[1])

    def test_wrong_operations(self):
        session = Session.of("r1 r1", 1, 2)
        for operation in WRONG_OPERATIONS:
            self.fails(InvalidOperation, lambda: session.preview(operation))
            self.fails(InvalidOperation, lambda: session.preview(("go", 1), operation))
            self.fails(InvalidOperation, lambda: session.preview(("go", 99), operation, ("go", None)))
        self.assertEqual(shown(session), ("r1 r1", (1, 2), 0, 0, [], 2))


class WrongTest(Case):
    def test_new_sessions(self):
        self.check_errors(Session, programs(Program("r1")), ((1, 2), (InvalidStack, WRONG_STACKS)))
        for need in (1, 2, 50, 100):
            program = Program(" ".join(["d"] * need))
            for high in (0, need - 1):
                self.fails(ShortStack, lambda: Session(program, (1,) * high), least=need)
            Session(program, (1,) * need)
        for text in WRONG_TEXTS:
            value = text if isinstance(text, str) else None
            expected = None if value is None else reference.wrong_word(value)
            self.fails(InvalidText, lambda: Session.of(text, None), index=expected)
            self.assertTrue(value is None or expected is not None)
        self.fails(TooHigh, lambda: Session.of("( 1 )101", None), limit=100)
        for program in CHOOSING:
            self.fails(NotPlain, lambda: Session.of(program.text, None))
        for cell in WRONG_VALUES:
            self.fails(InvalidStack, lambda: Session.of("( d )50", cell))
            self.fails(InvalidStack, lambda: Session.of("", 1, cell, 2))
        self.fails(ShortStack, lambda: Session.of("r2", 1, 2), least=3)
        self.fails(InvalidProgram, lambda: Session("r1", (1, 2)))

    def session(self):
        session = Session.of("1 ( r2 )4 d", 5, 6)
        session.go(2)
        session.poke(1, 7)
        session.go(3)
        return session

    def test_wrong_operations(self):
        session = self.session()
        before = shown(session)
        for step in [*wrong_steps(session.program), 1, 0]:
            self.fails(InvalidStep, lambda: session.go(step))
        for steps in [*NO_NUMBERS, 0, -1, 4, MOST, 10 ** 399, -10 ** 399]:
            self.fails(InvalidStep, lambda: session.ahead(steps=steps))
        for index in [*NO_NUMBERS, -1, 1, 3, 5, 6, 10 ** 399, -10 ** 399]:
            self.fails(InvalidIndex, lambda: session.run_to(index))
        self.fails(NoSuchStep, lambda: session.run_to(0))
        for depth in [*NO_NUMBERS, -1, 3, 4, 100, 10 ** 399, -10 ** 399]:
            self.fails(InvalidDepth, lambda: session.poke(depth, 1))
            self.fails(InvalidDepth, lambda: session.poke(depth, None))
        for value in WRONG_VALUES:
            self.fails(InvalidValue, lambda: session.poke(0, value))
        self.assertEqual(shown(session), before)
        self.assertTrue(session == self.session())

    def test_wrong_calls_do_not_count(self):
        session = Session.of("r1", 1, 2)
        for call in (lambda: session.go(2), lambda: session.ahead(steps=2), lambda: session.run_to(1),
                     lambda: session.run_to(0), lambda: session.poke(2, 0), lambda: session.poke(0, MOST + 1),
                     lambda: session.preview(("go", 2)), lambda: session.preview(None)):
            with self.assertRaises(StackError):
                call()
            self.assertEqual(session.log(), [])
            self.fails(Nothing, session.undo)
        session.go(1)
        with self.assertRaises(StackError):
            session.go(2)
        session.undo()
        self.fails(Nothing, session.undo)

    def test_keyword_arguments(self):
        session = Session.of("r1", 1, 2)
        with self.assertRaises(TypeError):
            session.ahead(1)
        self.assertEqual(session.ahead(steps=1), (2, 1))

    def test_empty_programs_and_stacks(self):
        session = Session.of("")
        self.assertEqual([session.go(0), session.stack, len(session)], [(), (), 0])
        for call, error in ((session.ahead, InvalidStep), (lambda: session.poke(0, 0), InvalidDepth),
                            (lambda: session.run_to(0), InvalidIndex), (lambda: session.go(1), InvalidStep)):
            self.fails(error, call)
        self.assertEqual(effect_of(session.program).taken, 0)
