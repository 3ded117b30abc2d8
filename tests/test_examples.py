"""The examples of the document, to the letter."""

import unittest

from stackworks.console import Console
from stackworks.decisions import certain_source, choices_for, effects_of, is_decided, possible_sources
from stackworks.effects import Effect, effect_of, same_effect
from stackworks.errors import InvalidText
from stackworks.moments import effect_at, next_at, place_at, stack_at
from stackworks.origins import arrived_at, first_with, origin_at
from stackworks.powers import cell_after, first_time, settles
from stackworks.programs import Program, count_word, word_at, words_from, written
from stackworks.sessions import Session
from stackworks.shorten import saved, shorten, shortest
from stackworks.shuffles import can_reach, fewest, plan, shuffled
from stackworks.stacks import run, states
from stackworks.undoing import can_undo, fewest_for, lost_from, program_for, steps_to_go, undo_for
from stackworks.units import link, unit, unit_names, unit_steps


class ExamplesTest(unittest.TestCase):
    def test_programs_of_the_table(self):
        table = [("r1", (2, 0, 0)), ("r2", (3, 0, 0)), ("1 ( r2 )4 d", (2, 1, 0)), ("{ r1 | } d", (2, 0, -1))]
        for text, sizes in table:
            program = Program(text)
            self.assertEqual((program.need, program.rise, program.growth), sizes, text)

    def test_effects_of_the_table(self):
        table = [
            ("r1", 2, (("in", 0), ("in", 1))),
            ("r2", 3, (("in", 1), ("in", 0), ("in", 2))),
            ("1 ( r2 )4 d", 2, (("in", 0), ("lit", 1))),
        ]
        for text, taken, left in table:
            effect = effect_of(Program(text))
            self.assertEqual((effect.taken, effect.left), (taken, left), text)

    def test_program(self):
        tour, pick = Program("1 ( r2 )4 d"), Program("{ r1 | } d")
        self.assertEqual(
            [tour.steps, len(tour), tour.need, tour.rise, pick.growth, pick.steps, "r2" in tour, (tour * 3).text],
            [6, 5, 2, 1, -1, None, True, "( 1 ( r2 )4 d )3"])

    def test_wrong_program(self):
        with self.assertRaises(InvalidText) as caught:
            Program("{ d | 7 }")
        self.assertEqual(caught.exception.index, 4)

    def test_steps(self):
        far = Program("r2 p0 d") * 10 ** 30
        some = [word for turn, word in zip(range(3), words_from(far, 10 ** 30))]
        self.assertEqual(
            [word_at(far, 3 * 10 ** 30 - 1), count_word(far, "p0") == 10 ** 30, some, written(Program("( 5 d )2"))],
            ["d", True, ["p0", "d", "r2"], ("5", "d", "5", "d")])

    def test_effects(self):
        turn, tour = effect_of(Program("r2")), effect_of(Program("1 ( r2 )4 d"))
        self.assertEqual(
            [turn.taken, turn.left, tour.left, (turn * 10 ** 30)((4, 5, 6)), (turn + turn + turn).taken],
            [3, (("in", 1), ("in", 0), ("in", 2)), (("in", 0), ("lit", 1)), (5, 6, 4), 0])

    def test_same_effect_and_cut(self):
        self.assertEqual(
            [same_effect(Program("r1 r1"), Program("")), Effect(2, (("in", 1), ("lit", 7))).taken,
             Effect(1, (("in", 0), ("in", 0))).source(5)],
            [True, 1, ("in", 4)])

    def test_units(self):
        source_text = "rot: r2\nmix: rot ( rot )3 p0\nmix d"
        self.assertEqual(
            [link(source_text).text, unit(source_text, "mix").growth, unit_names(source_text),
             unit_steps(source_text, "mix")],
            ["r2 ( r2 )3 p0 d", 1, ["rot", "mix"], 5])

    def test_stacks(self):
        pick = Program("{ r1 | } d")
        self.assertEqual(
            [run(Program("r2") * 10 ** 30, (4, 5, 6)), run(pick, (5, 6), choices="0"), run(pick, (5, 6), choices="1"),
             list(states(Program("1 r1"), (5,)))],
            [(5, 6, 4), (6,), (5,), [(5,), (5, 1), (1, 5)]])

    def test_powers(self):
        turn, drop, push = effect_of(Program("r2")), effect_of(Program("d")), effect_of(Program("3"))
        self.assertEqual(
            [cell_after(turn, 10 ** 30, 0), cell_after(drop, 10 ** 30, 2), cell_after(push, 4, 6),
             cell_after(push, 4, 2)],
            [("in", 2), ("in", 1000000000000000000000000000002), ("in", 2), ("lit", 3)])

    def test_first_time_and_settles(self):
        turn = effect_of(Program("r2"))
        self.assertEqual(
            [first_time(turn, 0, ("in", 1)), first_time(turn, 0, ("lit", 1)), settles(turn),
             settles(effect_of(Program("d 7")))],
            [2, None, (0, 3), (1, 1)])

    def test_moments(self):
        tour = Program("1 ( r2 )4 d")
        self.assertEqual(
            [effect_at(tour, 3).left, stack_at(tour, 3, (5, 6)), place_at(tour, 3), place_at(tour, 6),
             next_at(tour, 0, 4)],
            [(("lit", 1), ("in", 1), ("in", 0)), (1, 5, 6), (2, [2]), None, 5])

    def test_origins(self):
        tour = Program("1 ( r2 )4 d")
        self.assertEqual(
            [[origin_at(tour, 3, depth) for depth in range(3)], [arrived_at(tour, 3, depth) for depth in range(4)],
             first_with(tour, 0, ("in", 1))],
            [[("in", 0), ("in", 1), ("lit", 1, 0)], [2, 1, 0, None], 2])
        self.assertIs(arrived_at(Program("( r2 )3") * 10 ** 30, 3 * 10 ** 30, 1) == 3 * 10 ** 30 - 2, True)

    def test_shuffles(self):
        piles = [(("a", "b", "c"), ("c",)), (("a", "b"), ("b", "b")), ((1, 1, 1, 7), (7,)), (("a",), ("b",))]
        found = plan(("a", "b", "c"), ("c", "a", "c"))
        self.assertEqual(
            [[fewest(pile, goal) for pile, goal in piles], found.steps, shuffled(("a", "b", "c"), found)],
            [[4, 3, 5, None], 4, ("c", "a", "c")])
        self.assertEqual([can_reach(pile, goal) for pile, goal in piles], [True, True, True, False])

    def test_undoing(self):
        copy, tour = effect_of(Program("r1 r1 p0")), Program("1 ( r2 )4 d")
        self.assertEqual(
            [fewest_for(copy), program_for(copy).text, can_undo(copy), undo_for(copy).text,
             steps_to_go(tour, 3, effect_of(Program("1")))],
            [1, "p0", True, "d", 1])
        self.assertEqual(
            [lost_from(Program("p0 d d 7"), effect_of(Program(""))),
             lost_from(Program("r1") * 10 ** 30, effect_of(Program("r1")))],
            [3, None])

    def test_decisions(self):
        pick, mixed = Program("{ r1 | } d"), Program("{ r1 | r2 }") * 10 ** 30
        self.assertEqual(
            [possible_sources(pick, 0), choices_for(pick, 0, ("in", 1)), effects_of(pick),
             is_decided(Program("{ p0 d | }"))],
            [[("in", 0), ("in", 1)], "1", [(1, (), 1), (2, (("in", 0),), 1)], True])
        late = Program("{ r1 | r2 } 7") * 3
        self.assertEqual([certain_source(late, 0), len(possible_sources(mixed, 0))], [("lit", 7), 3])

    def test_shortening(self):
        long = Program("( r1 r1 p0 d 5 )3 r2 r2 r2 r2")
        self.assertEqual(
            [shorten(long).text, saved(long), shortest(Program("( r2 )4")).text, shorten(Program("( r1 r1 )9 d")).text],
            ["( 5 )3 r2", 15, "r2", "d"])

    def test_sessions(self):
        session = Session.of("1 ( r2 )4 d", 5, 6)
        self.assertEqual(
            [session.go(3), session.run_to(4), session.stack, session.poke(0, 9), session.ahead(),
             session.preview(("go", 5)), session.step, session.base],
            [(1, 5, 6), 5, (6, 1, 5), 5, (6, 1), (6, 1, 9), 6, 5])

    def test_console(self):
        console = Console()
        opened = [console.say("open 1 ( r2 )4 d"), console.say("stack 5 6"), console.say("go 3")]
        rows = ["next", "origin 2", "since 0", "effect", "left", "undo", "cells", "short"]
        self.assertEqual(
            [opened, [console.say(row) for row in rows]],
            [["ok", "ok", "1 5 6"], ["2", "lit 1 0", "2", "2 in:0 lit:1", "3", "ok", "5 6", "1 ( r2 )4 d"]])


if __name__ == "__main__":
    unittest.main()
