"""[4], [9], [10], [14], [16], section 16: the console."""

import random

from stackworks.console import Console
from stackworks.effects import effect_of
from stackworks.errors import InvalidCommand, InvalidDepth, InvalidIndex, InvalidStack, InvalidStep, InvalidText
from stackworks.errors import NoSuchStep, Nothing, NotPlain, ShortStack, StackError, TooHigh
from stackworks.moments import place_at
from stackworks.origins import arrived_at, origin_at
from stackworks.programs import Program
from stackworks.sessions import Session
from stackworks.shorten import shorten, shortest
from stackworks.undoing import steps_to_go
from tests import makers, reference
from tests.cases import MOST, Case, small_texts

WORDS = ["go", "ahead", "to", "poke", "undo", "step", "cells", "next", "origin", "since", "effect", "left", "short",
         "best", "stack"]
ODD_NUMBERS = ["-1", "-0", "+1", "00", "01", "1.0", "1_0", "0x1", "x", "", " 1", "1 ", "\u0663", "\u00b2", "1e3", "-",
               "1" + "0" * 400, "9" * 5000, "True", "None", "1\t", "\t1"]
ODD_CONSTANTS = ["-0", "+1", "00", "01", "-01", "x", "", " 1", "1 ", "\u0663", "--1", "-", str(MOST + 1),
                 str(-MOST - 1), "9" * 5000, "in", "1,2"]


def told(cells):
    return " ".join(map(str, cells)) or "-"


class Model:
    """Answers rows as the functions and methods of the package do."""

    def __init__(self):
        self.session = None

    def say(self, row):
        name, *words = row.split(" ")
        if name == "open":
            program = Program(row[5:])
            self.session = Session(program, (0,) * program.need)
            return "ok"
        numbers, session = [int(word) for word in words], self.session
        if name == "stack":
            self.session = Session(session.program, tuple(numbers))
            return "ok"
        return getattr(self, name)(session, session.program, session.step, *numbers)

    def go(self, session, program, now, step):
        return told(session.go(step))

    def ahead(self, session, program, now, steps):
        return told(session.ahead(steps=steps))

    def to(self, session, program, now, index):
        return str(session.run_to(index))

    def poke(self, session, program, now, depth, value):
        return str(session.poke(depth, value))

    def undo(self, session, program, now):
        session.undo()
        return "ok"

    def step(self, session, program, now):
        return f"{now}"

    def cells(self, session, program, now):
        return told(session.stack)

    def next(self, session, program, now):
        return "end" if now == program.steps else str(place_at(program, now)[0])

    def origin(self, session, program, now, depth):
        if depth >= len(session):
            raise InvalidDepth("none")
        return " ".join(map(str, origin_at(program, now, depth)))

    def since(self, session, program, now, depth):
        if depth >= len(session):
            raise InvalidDepth("none")
        found = arrived_at(program, now, depth)
        return "never" if found is None else str(found)

    def effect(self, session, program, now):
        found = effect_of(program)
        return " ".join([str(found.taken)] + [kind + ":" + str(number) for kind, number in found.left])

    def left(self, session, program, now):
        return str(steps_to_go(program, now, effect_of(program)))

    def short(self, session, program, now):
        return shorten(program).text or "-"

    def best(self, session, program, now):
        return shortest(program).text or "-"


class ConsoleCase(Case):
    def opened(self, text="1 ( r2 )4 d", stack="5 6"):
        console = Console()
        self.assertEqual(console.say("open " + text), "ok")
        if stack:
            self.assertEqual(console.say("stack " + stack), "ok")
        return console

    def check(self, console, rows):
        for row, answer in rows:
            self.assertEqual(console.say(row), answer, row)


class AnswersTest(ConsoleCase):
    def random_row(self, rng, model):
        session = model.session
        far = session.program.steps
        number = rng.choice([0, 1, 2, 3, rng.randint(0, 12), rng.randint(0, far), rng.randint(0, far + 1), far])
        name = rng.choice(WORDS)
        if name in ("go", "ahead", "origin", "since"):
            return f"{name} {number if name in ('go', 'ahead') else rng.randint(0, len(session) + 1)}"
        if name == "to":
            return f"to {rng.randint(0, len(session.program))}"
        if name == "poke":
            return f"poke {rng.randint(0, len(session))} {rng.choice([0, -1, MOST, -MOST, rng.randint(-99, 99)])}"
        if name == "stack":
            return "stack " + " ".join(str(rng.randint(-9, 9)) for cell in range(session.program.need + rng.randint(0,
                                                                                                                    2)))
        return name

    def test_row_after_row(self):
        rng = random.Random(411)
        for text in (*small_texts(412, 50, 100), *makers.far_texts(413, 25)):
            console, model = Console(), Model()
            self.assertEqual(console.say("open " + text), model.say("open " + text))
            for turn in range(40):
                row = self.random_row(rng, model)
                if row == "stack ":
                    continue
                try:
                    expected = model.say(row)
                except StackError as error:
                    self.fails(type(error), lambda: console.say(row), **vars(error))
                else:
                    found = console.say(row)
                    self.assertEqual(found, expected, row)
                    self.assertIsInstance(found, str)

    def test_by_hand(self):
        console = self.opened()
        self.check(console, [
            ("step", "0"), ("cells", "5 6"), ("next", "0"), ("origin 0", "in 0"), ("origin 1", "in 1"),
            ("since 0", "never"),
            ("effect", "2 in:0 lit:1"), ("left", "3"), ("ahead 1", "5 6 1"), ("origin 0", "lit 1 0"), ("since 0", "0"),
            ("left", "2"), ("next", "2"), ("go 3", "1 5 6"), ("poke 2 -7", "1"), ("cells", "-7 5 6"),
            ("origin 2", "lit 1 0"), ("since 2", "0"), ("left", "3"), ("to 4", "5"), ("step", "5"), ("next", "4"),
            ("ahead 1", "6 -7"), ("next", "end"), ("left", "0"), ("undo", "ok"), ("step", "5"), ("undo", "ok"),
            ("undo", "ok"), ("cells", "1 5 6"), ("undo", "ok"), ("cells", "5 6 1"), ("undo", "ok"), ("step", "0"),
            ("short", "1 ( r2 )4 d"), ("best", shortest(Program("1 ( r2 )4 d")).text),
        ])
        self.fails(Nothing, lambda: console.say("undo"))

    def test_empty_answers(self):
        console = self.opened("", "")
        self.check(console, [("cells", "-"), ("step", "0"), ("next", "end"), ("effect", "0"), ("left", "0"),
                             ("short", "-"), ("best", "-"), ("go 0", "-")])
        console = self.opened("d r1 r1", "")
        self.check(console, [("cells", "0 0 0"), ("short", "d"), ("best", "d"), ("effect", "1"), ("go 3", "0 0")])
        self.check(self.opened("d d", "4 5"), [("ahead 2", "-"), ("cells", "-"), ("effect", "2"), ("next", "end")])

    def test_open(self):
        console = Console()
        for text in ("", "r1", "( d )100", "1 ( r2 )4 d", f"( r9 ){MOST}"):
            self.assertEqual(console.say("open " + text), "ok")
            self.assertEqual(console.say("cells"), told((0,) * Program(text).need))
            self.assertEqual(console.say("step"), "0")
            self.fails(Nothing, lambda: console.say("undo"))

    def test_stack(self):
        console = self.opened("r1 d", "")
        self.check(console, [("go 2", "0"), ("stack 1 2 3", "ok"), ("step", "0"), ("cells", "1 2 3"),
                             ("ahead 2", "1 3"), (f"stack {MOST} {-MOST}", "ok"), ("cells", f"{MOST} {-MOST}"),
                             ("stack" + " 0" * 100, "ok"), ("cells", told((0,) * 100))])
        self.fails(Nothing, lambda: console.say("undo"))
        self.check(self.opened("", ""), [("stack 7", "ok"), ("cells", "7")])

    def test_far_numbers(self):
        text = "( " * 12 + "r2 7 p3 r5 d d" + f" ){MOST}" * 12
        steps = 6 * MOST ** 12
        console, session = self.opened(text, "1 2 3 4 5 6"), Session.of(text, 1, 2, 3, 4, 5, 6)
        last = told(session.go(steps))
        self.check(console, [
            (f"go {steps}", last), ("step", str(steps)), ("next", "end"),
            (f"go {steps - 1}", told(session.go(steps - 1))),
            ("next", "17"), ("go 0", "1 2 3 4 5 6"), ("to 17", "5"), (f"ahead {steps - 5}", last),
        ])
        self.assertEqual(console.say("origin 3"), " ".join(map(str, origin_at(Program(text), steps, 3))))
        self.assertEqual(console.say("since 0"), str(arrived_at(Program(text), steps, 0)))
        self.fails(InvalidStep, lambda: console.say("go " + "9" * 400))
        self.fails(InvalidDepth, lambda: console.say("origin " + "9" * 400))
        self.fails(InvalidDepth, lambda: console.say("poke " + "9" * 400 + " 1"))
        self.fails(InvalidIndex, lambda: console.say("to " + "9" * 400))

    def test_consoles_do_not_share_anything(self):
        one, other = self.opened(), self.opened("r1", "1 2")
        one.say("go 3")
        self.check(other, [("step", "0"), ("cells", "1 2"), ("short", "r1")])
        self.fails(InvalidCommand, lambda: Console().say("step"))


class WrongTest(ConsoleCase):
    def refused(self, rows, console):
        before = [console.say(row) for row in ("step", "cells", "short")] if console.session else None
        for row in rows:
            self.fails(InvalidCommand, lambda: console.say(row))
        if before:
            self.assertEqual([console.say(row) for row in ("step", "cells", "short")], before)

    def test_rows_of_no_form(self):
        rows = [
            *reference.STRANGE, 0, 1, ("step",), ["step"], Console, Program("r1"), "", " ", "open", "Open r1",
            "opens r1", "open\tr1", " open r1", "OPEN ", "stack", "stack ", "stack  1", "steps", "help", "quit", "log",
            "preview", "step\n", "\nstep", "open r1\n", "open \n", "open r1\nr1", "cells\r", "go\t1", "go", "go 1 2", "ahead 1 1",
            "to 1 2", "poke 1", "poke 1 2 3", "origin", "since 1 2", "go ", "go  1", "poke  1 2", "poke 1  2",
        ]
        rows += [f"{word} " for word in WORDS] + [f" {word}" for word in WORDS] + [word.upper() for word in WORDS]
        rows += [f"{word} 1" for word in WORDS if word in ("undo", "step", "cells", "next", "effect", "left", "short",
                                                           "best")]
        rows += [word + "\n" for word in WORDS] + [word for word in WORDS if word in ("go", "poke", "to", "ahead")]
        for console in (Console(), self.opened()):
            self.refused(rows, console)

    def test_odd_numbers(self):
        rows = [f"{word} {number}" for word in ("go", "ahead", "to", "origin", "since") for number in ODD_NUMBERS]
        rows += [f"poke {number} 1" for number in ODD_NUMBERS] + [f"poke 0 {number}" for number in ODD_CONSTANTS]
        rows += [f"stack {number}" for number in ODD_CONSTANTS] + [f"stack 1 {number}" for number in ODD_CONSTANTS]
        rows += [f"stack {number} 1" for number in ODD_CONSTANTS] + [f"poke x {number}" for number in ODD_CONSTANTS]
        for console in (Console(), self.opened()):
            self.refused(rows, console)

    def test_no_session(self):
        rows = ["go 0", "ahead 1", "to 0", "poke 0 1", "undo", "step", "cells", "next", "origin 0", "since 0", "effect",
                "left", "short", "best", "stack 1", "stack 1 2"]
        console = Console()
        self.refused(rows, console)
        for row in ("open x", "open ( 1 )101", "open { | }", "open  "):
            with self.assertRaises(StackError):
                console.say(row)
        self.refused(rows, console)

    def test_wrong_texts(self):
        console = self.opened()
        console.say("go 3")
        for text in (" ", "r1 ", " r1", "r1  r1", "(", "( )2", "r0", "p99", "( r1 )1", "{ r1 }", "{ d | 7 }", "d d x",
                     "r1\t"):
            self.fails(InvalidText, lambda: console.say("open " + text), index=reference.wrong_word(text))
        self.fails(TooHigh, lambda: console.say("open ( 1 )101"), limit=100)
        self.fails(NotPlain, lambda: console.say("open { r1 | }"))
        # What went wrong has changed nothing.
        self.check(console, [("step", "3"), ("cells", "1 5 6"), ("short", "1 ( r2 )4 d"), ("undo", "ok"),
                             ("step", "0")])

    def test_errors_of_what_the_row_calls(self):
        console = self.opened()
        console.say("go 2")
        console.say("poke 0 9")
        before = [console.say(row) for row in ("step", "cells")]
        table = [
            ("go 1", InvalidStep), ("go 7", InvalidStep), ("ahead 0", InvalidStep), ("ahead 5", InvalidStep),
            ("to 1", InvalidIndex), ("to 3", InvalidIndex), ("to 5", InvalidIndex), ("to 0", NoSuchStep),
            ("poke 3 1", InvalidDepth), ("origin 3", InvalidDepth), ("since 3", InvalidDepth),
            ("origin 4", InvalidDepth),
        ]
        for row, error in table:
            self.fails(error, lambda: console.say(row))
        self.fails(ShortStack, lambda: console.say("stack 1"), least=2)
        self.fails(InvalidStack, lambda: console.say("stack" + " 1" * 101))
        self.assertEqual([console.say(row) for row in ("step", "cells")], before)
        console.say("undo")
        console.say("undo")
        self.fails(Nothing, lambda: console.say("undo"))

    def test_depths_of_the_present_cells(self):
        console = self.opened("( d )3 7", "1 2 3 4")
        for step, high in ((0, 4), (1, 3), (3, 1), (4, 2)):
            console.say(f"go {step}")
            for word in ("origin", "since"):
                console.say(f"{word} {high - 1}")
                for depth in (high, high + 1, 100, MOST, 10 ** 399):
                    self.fails(InvalidDepth, lambda: console.say(f"{word} {depth}"))
