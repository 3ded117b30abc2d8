"""[2], [10], [11], section 11: shuffled, can_reach, fewest and plan."""

import itertools
import random

from stackworks.effects import Effect
from stackworks.errors import InvalidPile, InvalidProgram, NotPlain, NotReachable, ShortStack
from stackworks.programs import Program, written
from stackworks.shuffles import can_reach, fewest, plan, shuffled
from stackworks.stacks import run
from tests import makers, reference
from tests.cases import MOST, Case, programs, small_texts
from tests.fewest import all_distances, by_formula

WRONG_LABELS = [None, True, False, b"a", "", "A", "aB", "a1", "a b", " a", "a ", "a\n", "abcdefghi", "1", "-1", "d_",
                "\xe9", "\u0430", MOST + 1, -MOST - 1, 10 ** 399, ("a",), ["a"], ("in", 0), (), Program("")]
WRONG_PILES = [*reference.STRANGE, "", "abc", 0, 1, ["a", "b"], {"a": 1}, ("a",) * 61, (1,) * 61, ("a",) * 400,
               Program(""), Effect(0, ()), *((label,) for label in WRONG_LABELS),
               *(("a", 1, label) for label in WRONG_LABELS), *((label, "b", 2) for label in WRONG_LABELS),
               ("z",) * 59 + (None,)]
PILES = (("a", 1, "abcdefgh", "z", 0), (InvalidPile, WRONG_PILES))


def is_symbol(label):
    return isinstance(label, str)


def piles(rng, most, labels):
    return tuple(rng.choice(labels) for place in range(rng.randint(0, most)))


def related(rng, pile, most, labels):
    """Return a goal that has much of a pile: cells taken out, moved, copied and added."""
    goal = list(pile)
    for change in range(rng.randint(0, 6)):
        kind = rng.randrange(4)
        if kind == 0 and goal:
            goal.pop(rng.randrange(len(goal)))
        elif kind == 1 and goal:
            goal.append(goal.pop(rng.randrange(len(goal))))
        elif kind == 2 and goal:
            goal.insert(rng.randint(0, len(goal)), rng.choice(goal))
        else:
            goal.insert(rng.randint(0, len(goal)), rng.choice(labels))
    return tuple(goal[:most])


class ShuffledTest(Case):
    def test_as_instructions_are_performed(self):
        rng = random.Random(321)
        labels = ["a", "b", "abcdefgh", 0, 1, -1, MOST, -MOST, "zz"]
        for text in small_texts(322, 150):
            program, row = Program(text), reference.read(text)
            if program.need > 60:
                continue
            pile = tuple(rng.choice(labels) for place in range(rng.randint(program.need, 60)))
            cells = list(pile)
            for word in reference.all_words(row):
                reference.perform(word, cells)
            self.assertEqual(shuffled(pile, program), reference.values(cells))

    def test_far_programs(self):
        for text in makers.far_texts(323, 40):
            program = Program(text)
            pile = tuple(range(1, program.need + 1))
            named = tuple("abcdefghijklmnopqrstuvwxyz"[at % 26] + "k" * (at // 26) for at in range(program.need))
            names = dict(zip(pile, named))
            if program.need <= 60:
                # No constant of the program is a name, and no number of the pile is one of its constants.
                moved = shuffled(named, program)
                numbers = run(program, tuple(-MOST + at for at in pile))
                self.assertEqual(moved, tuple(names.get(cell + MOST, cell) for cell in numbers))

    def test_results_may_be_long(self):
        self.assertEqual(shuffled(("a",) * 60, Program("( p0 )40")), ("a",) * 100)
        self.assertEqual(shuffled((), Program("( 7 )100")), (7,) * 100)
        self.assertEqual(shuffled((), Program("")), ())
        self.assertEqual(shuffled(("a", 5), Program("r1")), (5, "a"))

    def test_cells_below_stay(self):
        self.assertEqual(shuffled(("x", "y", "a", "b"), Program("r1 d")), ("x", "y", "b"))
        self.assertEqual(shuffled(("x", "y", "a", "b", "c"), Program("r2") * MOST), ("x", "y", "b", "c", "a"))


class FewestTest(Case):
    def test_all_programs_tried(self):
        # All goals of at most three cells from all piles of at most three; two cells more on the way do not help.
        labels = ("a", "b", 1, 2)
        for size in range(4):
            for pile in itertools.product(labels, repeat=size):
                found = all_distances(pile, (1, 2), 4)
                for goal, steps in found.items():
                    if len(goal) <= 3:
                        self.assertEqual(fewest(pile, goal), steps, (pile, goal))
                for goal in itertools.product(labels, repeat=2):
                    self.assertEqual(can_reach(pile, goal), goal in found)
                    self.assertEqual(fewest(pile, goal) is None, goal not in found)

    def test_higher_piles_tried(self):
        rng = random.Random(324)
        for turn in range(6):
            pile = tuple(rng.choice("aabc") if rng.random() < 0.8 else 1 for place in range(5))
            found = all_distances(pile, (1,), 6)
            for goal in rng.sample(sorted(found, key=repr), 300):
                if len(goal) <= 5:
                    self.assertEqual(fewest(pile, goal), found[goal], (pile, goal))
                    self.assertEqual(plan(pile, goal).steps, found[goal])

    def test_against_the_formula(self):
        rng = random.Random(325)
        for turn in range(1500):
            labels = rng.choice([["a", "b"], [1, 2], ["a", "b", "c", 1, 2, -1], list("abcdefgh") + [0, MOST, -MOST]])
            most = rng.choice([3, 8, 20, 60])
            pile = piles(rng, most, labels)
            goal = related(rng, pile, 60, labels) if turn % 2 else piles(rng, most, labels)
            expected = by_formula(pile, goal, is_symbol)
            self.assertEqual(fewest(pile, goal), expected, (pile, goal))
            self.assertEqual(can_reach(pile, goal), expected is not None)
            if expected is not None:
                self.check_plan(pile, goal, expected)

    def check_plan(self, pile, goal, steps):
        found = plan(pile, goal)
        self.assertIsInstance(found, Program)
        self.assertTrue(found.is_plain)
        self.assertNotIn("(", found.text)
        self.assertEqual((found.steps, len(found)), (steps, steps))
        self.assertLessEqual(found.need, len(pile))
        self.assertEqual(shuffled(pile, found), goal)
        self.assertEqual(found.text.split() if found.text else [], list(written(found)))

    def test_the_highest_piles(self):
        rng = random.Random(326)
        names = [first + second for first in "abcdefgh" for second in "abcdefgh"][:60]
        for turn in range(20):
            mixed = names[:]
            rng.shuffle(mixed)
            for pile, goal in [(tuple(names), tuple(mixed)), (tuple(mixed), tuple(mixed[:1] * 60)),
                               (tuple(mixed[:1]), tuple(mixed[:1] * 60)), (tuple(mixed), tuple(mixed[59:])),
                               (tuple(mixed), ()), ((), tuple(range(60))), (tuple(range(60)), tuple(range(60, 120))),
                               (tuple(mixed), tuple(mixed[30:] + mixed[:30]))]:
                self.check_plan(pile, goal, by_formula(pile, goal, is_symbol))

    def test_by_hand(self):
        table = [
            ((), (), 0), (("a",), ("a",), 0), (("a",), (), 1), ((), ("a",), None), ((), (1,), 1), ((1,), (1, 1), 1),
            (("a", "b"), ("b", "a"), 1), (("a", "b", "c"), ("c", "b", "a"), 2), (("a", "b"), ("b",), 2),
            (("a", "b"), ("a",), 1), ((1, 1, 1, 7), (7,), 5), (("a", "a", "a", "b"), ("b",), 6), ((1, 2), (2, 1), 1),
            (("a", 1), ("a", 2), 2), ((1, "a"), (2, "a"), 4), (("abcdefgh",), ("abcdefgh", "abcdefgh"), 1),
            (("a", "b", "c", "d"), ("a", "c"), 3), ((MOST, -MOST), (-MOST, MOST), 1), (("b", "a"), ("a", "a", "a"), 4),
            (("a",), ("a", "b"), None), ((0,), ("a",), None),
        ]
        for pile, goal, steps in table:
            self.assertEqual(fewest(pile, goal), steps, (pile, goal))
            self.assertEqual(can_reach(pile, goal), steps is not None)

    def test_from_goal_to_goal(self):
        rng = random.Random(327)
        for turn in range(200):
            pile = piles(rng, 10, list("abc") + [1])
            goal, further = related(rng, pile, 12, [1, 2]), related(rng, pile, 12, [1, 2])
            if can_reach(pile, goal) and can_reach(goal, further):
                self.assertTrue(can_reach(pile, further))
                self.assertLessEqual(fewest(pile, further), fewest(pile, goal) + fewest(goal, further))


class WrongTest(Case):
    def test_wrong_arguments(self):
        for call in (can_reach, fewest, plan):
            self.check_errors(call, (("a", 1, "abcdefgh", "z", 0), *PILES[1:]), (("z", 9), *PILES[1:]))
        self.check_errors(shuffled, PILES, programs())

    def test_not_reachable(self):
        for pile, goal in [((), ("a",)), (("a", 1), ("b",)), ((1,), (1, "one")), (("ab",), ("a", "b"))]:
            self.fails(NotReachable, lambda: plan(pile, goal))
            self.assertIs(can_reach(pile, goal), False)
            self.assertIsNone(fewest(pile, goal))

    def test_short_piles(self):
        for need in (1, 2, 59, 60, 61, 99):
            program = Program(f"r{need - 1}" if need > 1 else "d")
            for size in {0, 1, min(need - 1, 60), min(need, 60), 60}:
                if size < need:
                    self.fails(ShortStack, lambda: shuffled(("a",) * size, program), least=need)
                else:
                    shuffled(("a",) * size, program)
        self.fails(InvalidPile, lambda: shuffled(("a",) * 61, Program("{ | }")))
        self.fails(InvalidPile, lambda: shuffled((None,), None))
        self.fails(InvalidProgram, lambda: shuffled((), None))
        self.fails(NotPlain, lambda: shuffled((), Program("{ d | d }")))
        self.fails(InvalidPile, lambda: plan(("A",), ("b",)))
        self.fails(InvalidPile, lambda: plan(("a",), ("b", "B")))

    def test_valid_piles(self):
        for pile in [(), ("a",), ("abcdefgh",), ("zzzzzzzz",) * 60, (MOST,), (-MOST,), (0, "az") * 30]:
            self.assertEqual(shuffled(pile, Program("")), pile)
            self.assertEqual(plan(pile, pile).text, "")
            self.assertEqual(fewest(pile, ()), len(pile))

    def test_the_same_again(self):
        pile, goal = ("a", 1, "b", "b"), ("b", "a", 2)
        for turn in range(3):
            self.assertTrue(plan(pile, goal) == plan(("a", 1, "b", "b"), ("b", "a", 2)))
            self.assertEqual(fewest(pile, goal), plan(pile, goal).steps)
        self.assertEqual((pile, goal), (("a", 1, "b", "b"), ("b", "a", 2)))
