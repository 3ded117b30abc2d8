"""[7], [8], [10], [15], section 13: possible and certain sources, choices that lead to a source, listed effects."""

import random

from stackworks.decisions import certain_source, choices_for, effects_of, is_decided, possible_sources
from stackworks.effects import effect_of
from stackworks.errors import InvalidDepth, InvalidProgram, InvalidSource, TooLarge
from stackworks.programs import Program
from stackworks.stacks import run
from tests import makers, reference
from tests.cases import MOST, Case, depths, programs, small_texts, source_in, sources
from tests.test_effect_errors import NO_NUMBERS, WRONG_SOURCES

PICK = "{ r1 | } d"


def all_cells(text, extra=2):
    """Return the height of the marked cells, and a list of the tuples (choices, cells behind the program)."""
    row = reference.read(text)
    height = reference.sizes(row)[0] + extra
    found = []
    for choices, words in reference.ways(row):
        cells = reference.marks(height)
        for word in words:
            reference.perform(word, cells)
        found.append((choices, tuple(cells)))
    return height, found


def relation(text, depth):
    """Return the set of the sources of the cell at a depth behind a program, for all choices."""
    height, found = all_cells(text, 0)
    return {source_in(cells, height, depth) for choices, cells in found}


def often(body, times, depth):
    """Return the set of the sources of the cell at a depth behind so many passes of a body, pass by pass.

    Once a set of depths comes again, so do all that follow.
    """
    now, constants, seen, line = frozenset([depth]), frozenset(), {}, []
    known = {}
    for done in range(times):
        if (now, constants) in seen:
            start = seen[now, constants]
            now, constants = line[start + (times - start) % (done - start)]
            break
        seen[now, constants] = done
        line.append((now, constants))
        for at in now:
            if at not in known:
                known[at] = relation(body, at)
        found = set().union(*(known[at] for at in now))
        constants = constants | {source for source in found if source[0] == "lit"}
        now = frozenset(number for kind, number in found if kind == "in")
    return {("in", at) for at in now} | set(constants)


def small_bodies(seed, count):
    """Yield texts without growth and with choices, of few cells and ways."""
    rng = random.Random(seed)
    while count > 0:
        words = makers.with_growth(rng, makers.some_words(rng, rng.randint(1, 7), 2, True, (2, 3), 3), 0)
        text = " ".join(words)
        if "{" in text and reference.many_ways(reference.read(text)) <= 60 and not reference.is_high(text):
            count -= 1
            yield text


def most_choices(row):
    """Return how many choices are met at most."""
    total = 0
    for part in row:
        if isinstance(part, tuple) and part[0] == "repeat":
            total += most_choices(part[1]) * part[2]
        elif isinstance(part, tuple):
            total += 1 + max(most_choices(part[1]), most_choices(part[2]))
    return total


class SourcesTest(Case):
    def test_all_choices_of_small_programs(self):
        for text in small_texts(361, 150, 300, True, 18):
            program = Program(text)
            height, found = all_cells(text)
            cells_high = len(found[0][1])
            for depth in (*range(cells_high), cells_high, cells_high + 50, 10 ** 399):
                expected = sorted({source_in(cells, height, depth) for choices, cells in found})
                self.assertEqual(possible_sources(program, depth), expected, (text, depth))
                certain = expected[0] if len(expected) == 1 else None
                self.assertEqual(certain_source(program, depth), certain)
            self.assertIs(is_decided(program), len({cells for choices, cells in found}) == 1)

    def test_far_repeats(self):
        rng = random.Random(362)
        for body in small_bodies(363, 90):
            many = rng.choice([2, 3, 7, 50, 10 ** 29, MOST, MOST - 1])
            program = Program(f"( {body} ){many}")
            for depth in (0, 1, 2, 3, 5, 9):
                expected = often(body, many, depth)
                self.assertEqual(possible_sources(program, depth), sorted(expected), (program.text, depth))
                certain = min(expected) if len(expected) == 1 else None
                self.assertEqual(certain_source(program, depth), certain)

    def test_far_repeats_between_other_words(self):
        rng = random.Random(364)
        for body in small_bodies(365, 60):
            before, behind = (makers.text(rng, rng.randint(0, 5), 1, True, (2,), 3) for turn in range(2))
            if reference.many_ways(reference.read(before)) * reference.many_ways(reference.read(behind)) > 200:
                continue
            text = " ".join(part for part in (before, f"( {body} ){MOST}", behind) if part)
            if reference.is_high(text):
                continue
            for depth in (0, 1, 2, 4):
                expected = set()
                for late in relation(behind, depth):
                    for middle in often(body, MOST, late[1]) if late[0] == "in" else [late]:
                        expected |= relation(before, middle[1]) if middle[0] == "in" else {middle}
                self.assertEqual(possible_sources(Program(text), depth), sorted(expected), (text, depth))

    def test_repeats_in_repeats(self):
        for body in small_bodies(366, 25):
            deep = f"( r1 ( {body} ){MOST} )3"
            flat = f"r1 ( {body} ){MOST} r1 ( {body} ){MOST} r1 ( {body} ){MOST}"
            for depth in (0, 1, 2, 4):
                self.assertEqual(possible_sources(Program(deep), depth), possible_sources(Program(flat), depth))
            if reference.many_ways(reference.read(body)) > 5:
                continue
            far = Program(f"( r1 ( {body} )3 ){MOST}")
            for depth in (0, 1, 3):
                self.assertEqual(possible_sources(far, depth), sorted(often(f"r1 ( {body} )3", MOST, depth)))

    def test_rings_of_many_lengths(self):
        # A ring of each length, turned by both parts: the passes modulo the lengths tell the sources.
        for length in (2, 3, 5, 7, 30, 97):
            program = Program(f"( {{ r{length - 1} | r{length - 1} r1 r1 }} ){MOST}")
            for depth in (0, 1, length - 1):
                self.assertEqual(possible_sources(program, depth), [("in", (depth - MOST) % length)])
            self.assertIs(is_decided(program), True)
            wide = Program(f"( {{ r{length - 1} | r{length} }} ){MOST}")
            self.assertEqual(len(possible_sources(wide, 0)), length + 1)
        twice = Program(f"( {{ r3 r3 | r3 r3 r3 r3 }} ){MOST}")
        self.assertEqual(possible_sources(twice, 0), [("in", 0), ("in", 2)])
        twice = Program(f"( {{ r3 r3 | r3 r3 r3 r3 r3 r3 }} ){MOST - 1}")
        self.assertEqual(possible_sources(twice, 1), [("in", 3)])

    def test_growing_and_falling_repeats(self):
        for text in ("( { 1 | 2 } )40", "( { r1 | } d )40", "( { d | r2 d } )30", "( { p0 | p3 } r2 )20"):
            program = Program(text)
            body, times = text[2:text.rindex(")")].strip(), int(text[text.rindex(")") + 1:])
            for depth in (0, 1, 5, 19, 20, 30, 39, 40, 70, 200):
                self.assertEqual(set(possible_sources(program, depth)), often(body, times, depth), (text, depth))

    def test_growing_and_falling_repeats_among_other_words(self):
        repeats = ["( { 1 | 2 } )3", "( { r1 | } d )2", "( { p0 | p3 } r2 )2", "( { d | r2 d } )3",
                   "( { r1 | 5 d } p1 )2"]
        rng = random.Random(376)
        for turn in range(120):
            words = []
            for part in range(3):
                words += [rng.choice(["d d", "d", "7", "r2", "p1 r3", "d d d"]), rng.choice(repeats)]
            text = " ".join(words)
            if reference.many_ways(reference.read(text)) > 512:
                continue
            height, found = all_cells(text)
            for depth in range(len(found[0][1])):
                expected = sorted({source_in(cells, height, depth) for choices, cells in found})
                self.assertEqual(possible_sources(Program(text), depth), expected, (text, depth))

    def test_plain_programs(self):
        for text in (*small_texts(367, 40), *makers.far_texts(368, 20)):
            program = Program(text)
            effect = effect_of(program)
            self.assertIs(is_decided(program), True)
            for depth in (0, 1, 2, 7, 60, 10 ** 399):
                self.assertEqual(possible_sources(program, depth), [effect.source(depth)])
                self.assertEqual(certain_source(program, depth), effect.source(depth))

    def test_the_order_of_the_sources(self):
        program = Program("{ 10 | { 9 | { -7 | { p0 | { p9 | p2 } } } } }")
        self.assertEqual(possible_sources(program, 0),
                         [("in", 0), ("in", 2), ("in", 9), ("lit", -7), ("lit", 9), ("lit", 10)])
        self.assertEqual(possible_sources(program, 1), [("in", 0)])
        wide = "{ " + " | { ".join(str(number) for number in range(11)) + " | 99" + " }" * 11
        self.assertEqual(possible_sources(Program(wide), 0), [("lit", number) for number in (*range(11), 99)])

    def test_is_decided_by_hand(self):
        table = [("", True), ("{ | }", True), ("{ p0 d | }", True), (PICK, False), ("{ r1 | r1 r1 }", False),
                 ("{ 1 | 2 } d", True), ("{ 1 | 1 }", True), ("{ r1 | } d d", True),
                 (f"( {{ r1 | }} ){MOST} d d 1", True),
                 (f"( {{ r1 | }} ){MOST} d", False), ("{ 5 r99 d | d 5 }", False)]
        for text, expected in table:
            self.assertIs(is_decided(Program(text)), expected, text)


class ChoicesTest(Case):
    def test_each_source_of_small_programs(self):
        for text in small_texts(369, 150, 300, True, 18):
            program, row = Program(text), reference.read(text)
            height, found = all_cells(text)
            if most_choices(row) > 200:
                continue
            for depth in (*range(len(found[0][1])), len(found[0][1]) + 3):
                possible = {source_in(cells, height, depth) for choices, cells in found}
                for source in possible:
                    choices = choices_for(program, depth, source)
                    self.assertIn(choices, [one for one, cells in found])
                    self.assertEqual(effect_of(program, choices=choices).source(depth), source)
                for source in [("in", 0), ("in", 1), ("in", depth), ("lit", 7), ("lit", MOST), ("in", 10 ** 399)]:
                    self.assertEqual(choices_for(program, depth, source) is None, source not in possible)

    def test_many_choices(self):
        for text in ("( { r1 | r2 } )200", "( { r3 | { r1 | } } )100", "( ( { r1 | } { r2 | p0 d } )10 r5 )10",
                     "( { r9 | r8 r9 } r9 )200", "( ( { p0 r2 d | r3 } )7 ( r9 )1000 )28", "( { 1 | 2 } )70",
                     "( { r1 | r2 } d )40", "( { { r1 | r2 } | } )100"):
            program = Program(text)
            for depth in (0, 1, 2, 3, 9, 60):
                for source in possible_sources(program, depth)[:12]:
                    choices = choices_for(program, depth, source)
                    self.assertEqual(effect_of(program, choices=choices).source(depth), source, (text, depth))
                self.assertIsNone(choices_for(program, depth, ("lit", 12345)))

    def test_all_sources_that_are_not_possible(self):
        for text in ("( { r1 | r2 } )3", "{ r3 d 4 | 5 r4 d }", PICK):
            program = Program(text)
            for depth in range(6):
                possible = possible_sources(program, depth)
                for source in [("in", at) for at in range(9)] + [("lit", 4), ("lit", 5), ("lit", 6)]:
                    self.assertEqual(choices_for(program, depth, source) is not None, source in possible)

    def test_by_hand(self):
        table = [
            (PICK, 0, ("in", 1), "1"), (PICK, 0, ("in", 0), "0"), (PICK, 0, ("in", 2), None), (PICK, 1, ("in", 2), "?"),
            ("", 0, ("in", 0), ""), ("", 0, ("in", 1), None), ("5", 0, ("lit", 5), ""), ("5", 0, ("lit", 4), None),
            ("{ 5 | 6 } { d 7 | }", 0, ("lit", 6), "11"), ("{ 5 | 6 } { d 7 | }", 0, ("lit", 7), "?0"),
            ("{ { 1 | 2 } | 3 }", 0, ("lit", 2), "01"), ("{ { 1 | 2 } | 3 }", 0, ("lit", 3), "1"),
            ("{ { 1 | 2 } | 3 } 4", 0, ("lit", 4), "??"), ("( { 1 | 2 } )3", 1, ("lit", 2), "?1?"),
            ("( { 1 | 2 } )3", 10 ** 399, ("in", 10 ** 399 - 3), "???"),
            ("( { 1 | 2 } )3", 10 ** 399, ("in", 10 ** 399), None),
        ]
        for text, depth, source, expected in table:
            found = choices_for(Program(text), depth, source)
            if expected is None or "?" not in expected:
                self.assertEqual(found, expected, text)
            else:
                self.assertIn(found, [choices for choices, words in reference.ways(reference.read(text))])
                for sign, wanted in zip(found, expected):
                    self.assertIn(wanted, ("?", sign), text)

    def test_limits(self):
        for text, most in [("( { r1 | } )200", 200), ("( { r1 | } )201", 201), ("( { r1 | } )1000", 1000),
                           (f"( {{ r1 | }} ){MOST}", MOST), ("( { | { | } } )100", 200), ("( { | { | } } )101", 202),
                           ("( { | { | } } )100 { | }", 201), ("( ( { | } )20 )10", 200), ("( ( { | } )20 )11", 220)]:
            program = Program(text)
            for depth, source in [(0, ("in", 0)), (0, ("lit", 1)), (10 ** 399, ("in", 10 ** 399))]:
                if most > 200:
                    self.fails(TooLarge, lambda: choices_for(program, depth, source), limit=200)
                else:
                    choices_for(program, depth, source)


class EffectsTest(Case):
    def test_all_choices_of_small_programs(self):
        for text in small_texts(371, 200, 1024, True, 18):
            program, row = Program(text), reference.read(text)
            if most_choices(row) > 10:
                self.fails(TooLarge, lambda: effects_of(program), limit=10)
                continue
            expected = {}
            for choices, words in reference.ways(row):
                effect = reference.effect_of_row(list(words))
                expected[effect] = expected.get(effect, 0) + 1
            self.assertEqual(effects_of(program), sorted((*effect, number) for effect, number in expected.items()))

    def test_the_numbers_are_those_of_all_choices(self):
        for text, number in [("( { r1 | r2 } )10", 1024), ("{ | { | { | } } }", 4), ("( { | { | } } )5", 243),
                             ("", 1), (f"( r2 ){MOST}", 1), ("( { r1 | } { | } )5", 1024)]:
            program = Program(text)
            found = effects_of(program)
            self.assertEqual(sum(many for taken, left, many in found), number)
            self.assertEqual(is_decided(program), len(found) == 1)
            self.assertEqual(found, sorted(found))
            self.assertEqual(len({(taken, left) for taken, left, many in found}), len(found))

    def test_far_plain_parts(self):
        text = f"{{ ( r2 ){MOST} | ( r3 ){MOST} }} ( p0 r2 d ){MOST} {{ r1 | }}"
        program = Program(text)
        effects = [effect_of(program, choices=choices) for choices in ("00", "01", "10", "11")]
        expected = {}
        for effect in effects:
            key = (effect.taken, effect.left)
            expected[key] = expected.get(key, 0) + 1
        self.assertEqual(effects_of(program), sorted((*key, number) for key, number in expected.items()))

    def test_by_hand(self):
        self.assertEqual(effects_of(Program(PICK)), [(1, (), 1), (2, (("in", 0),), 1)])
        self.assertEqual(effects_of(Program("")), [(0, (), 1)])
        self.assertEqual(effects_of(Program("{ 1 | 2 } d")), [(0, (), 2)])
        self.assertEqual(effects_of(Program("( { r1 | } )2")), [(0, (), 2), (2, (("in", 0), ("in", 1)), 2)])
        self.assertEqual(effects_of(Program("{ { 3 | 3 } | -3 }")), [(0, (("lit", -3),), 1), (0, (("lit", 3),), 2)])

    def test_limits(self):
        for text, most in [("( { r1 | } )10", 10), ("( { r1 | } )11", 11), (f"( {{ r1 | }} ){MOST}", MOST),
                           ("( { | { | } } )5", 10), ("( { | { | } } )6", 12), ("( { | { | } } )5 { | }", 11)]:
            if most > 10:
                self.fails(TooLarge, lambda: effects_of(Program(text)), limit=10)
            else:
                effects_of(Program(text))


class AgreeTest(Case):
    def test_sources_effects_and_runs_agree(self):
        rng = random.Random(372)
        for text in small_texts(373, 80, 200, True, 15):
            program = Program(text)
            if most_choices(reference.read(text)) > 10 or program.need > 40:
                continue
            found = effects_of(program)
            stack = tuple(range(100, 100 + program.need + 3))
            for depth in range(8):
                expected = {source_in(list(left), taken, depth) for taken, left, number in found}
                self.assertEqual(set(possible_sources(program, depth)), expected)
            choices = rng.choice([one for one, words in reference.ways(reference.read(text))])
            for depth, cell in enumerate(reversed(run(program, stack, choices=choices))):
                source = effect_of(program, choices=choices).source(depth)
                self.assertIn(source, possible_sources(program, depth))
                if source[0] == "lit":
                    self.assertEqual(cell, source[1])

    def test_linked_programs(self):
        rng = random.Random(374)
        texts = list(small_texts(375, 40, 60, True, 8))
        for turn in range(60):
            one, other = Program(rng.choice(texts)), Program(rng.choice(texts))
            if one.need + one.rise + other.need + other.rise > 60:
                continue
            for depth in range(6):
                expected = set()
                for kind, number in possible_sources(other, depth):
                    expected |= set(possible_sources(one, number)) if kind == "in" else {(kind, number)}
                self.assertEqual(set(possible_sources(one + other, depth)), expected)


class WrongTest(Case):
    def test_wrong_arguments(self):
        for text in ("", PICK, f"( {{ r1 | }} ){MOST}"):
            program = Program(text)
            self.check_errors(possible_sources, programs(program, False), depths(10 ** 399))
            self.check_errors(certain_source, programs(program, False), depths(10 ** 399))
            self.check_errors(is_decided, programs(program, False))
        self.check_errors(choices_for, programs(Program(PICK), False), depths(), sources())
        self.check_errors(effects_of, programs(Program(PICK), False))

    def test_too_large_is_last(self):
        large = Program(f"( {{ r1 | }} ){MOST}")
        for depth in [*NO_NUMBERS, -1]:
            self.fails(InvalidDepth, lambda: choices_for(large, depth, ("in", 0)))
            self.fails(InvalidDepth, lambda: choices_for(large, depth, None))
        for source in WRONG_SOURCES:
            if source != ("in", 10 ** 399):
                self.fails(InvalidSource, lambda: choices_for(large, 0, source))
        self.fails(InvalidProgram, lambda: choices_for(large.text, 0, ("in", 0)))
        self.fails(TooLarge, lambda: choices_for(large, 0, ("in", 0)), limit=200)
        self.fails(TooLarge, lambda: effects_of(large), limit=10)

    def test_the_same_again_and_new_lists(self):
        program = Program("( { r1 | 7 r2 d } )3")
        shown = makers.shown(program)
        first = (possible_sources(program, 0), effects_of(program), choices_for(program, 0, ("lit", 7)))
        possible_sources(program, 0).append(7)
        possible_sources(program, 0).clear()
        effects_of(program).clear()
        again = (possible_sources(program, 0), effects_of(program), choices_for(program, 0, ("lit", 7)))
        self.assertEqual(first, again)
        other = Program("( { r1 | 7 r2 d } )3")
        self.assertEqual(first, (possible_sources(other, 0), effects_of(other), choices_for(other, 0, ("lit", 7))))
        self.assertEqual(makers.shown(program), shown)
        self.assertIsNot(possible_sources(program, 50), possible_sources(program, 50))
        self.assertEqual([type(effects_of(program)), type(effects_of(program)[0])], [list, tuple])
