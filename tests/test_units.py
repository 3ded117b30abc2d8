"""[4], [13], section 5: which source texts are accepted, and the first wrong line and word."""

import random
import unittest

from stackworks.effects import effect_of
from stackworks.errors import InvalidUnits, StackError, TooDeep, TooHigh, TooLarge
from stackworks.programs import Program
from stackworks.units import link, unit, unit_effect, unit_names, unit_steps
from tests import makers, reference
from tests.test_texts import ODD_WORDS

MOST = 10 ** 30
WRONG_NAMES = ["a:", "abcdefghi:", "Ab:", "aB:", "a1:", "ab", ":", "::", "ab::", ":ab", "a-b:", "a_b:", "a b:", "",
               "\u00e4\u00e4:", "ab :", " ab:", "d", "r2", "(", ")2", "d:", "12:", "r2:", "\u0430\u0431:"]


class SourceCase(unittest.TestCase):
    def wrong_at(self, source, place):
        """Check that all functions find the first wrong place of a value."""
        for call in (lambda: link(source), lambda: unit(source, "aa"), lambda: unit_names(source),
                     lambda: unit_steps(source, None), lambda: unit_effect(source, "aa")):
            with self.assertRaises(InvalidUnits, msg=repr(source)[:300]) as caught:
                call()
            self.assertIs(type(caught.exception), InvalidUnits)
            self.assertEqual((caught.exception.line, caught.exception.index), place, repr(source)[:300])

    def expect(self, call, expected, hint):
        """Compare the program that a call returns with its text, or its error with the name and the limit."""
        if isinstance(expected, str):
            self.assertEqual(call().text, expected, hint)
            return
        with self.assertRaises(StackError, msg=hint) as caught:
            call()
        self.assertEqual((type(caught.exception).__name__, caught.exception.limit), expected, hint)

    def check(self, text):
        """Compare what the functions make of a string with the second reading; return whether it is valid."""
        source = reference.Source(text)
        if source.wrong is not None:
            self.wrong_at(text, source.wrong)
            return False
        self.assertEqual(unit_names(text), source.names)
        self.expect(lambda: link(text), source.expected(len(source.names)), text[:300])
        for number, name in enumerate(source.names):
            self.expect(lambda: unit(text, name), source.expected(number), text[:300])
        return True


class SourceTextsTest(SourceCase):
    def test_by_hand(self):
        for text, names, program in [
                ("", [], ""), ("r1", [], "r1"), ("aa: r1\naa", ["aa"], "r1"), ("aa: r1\n", ["aa"], ""),
                ("aa: d\nbb: aa aa\n( bb )3 aa", ["aa", "bb"], "( d d )3 d"), ("abcdefgh: 7\n8", ["abcdefgh"], "8"),
                ("aa: r1\nbb: { aa | }\ncc: bb bb\n{ cc | aa }", ["aa", "bb", "cc"],
                 "{ { r1 | } { r1 | } | r1 }"),
                ("dd: d\npp: p0\nrr: r1\ndd pp rr", ["dd", "pp", "rr"], "d p0 r1"),
                ("zz: ( r2 )4\naz: 1 zz d\naz zz", ["zz", "az"], "1 ( r2 )4 d ( r2 )4"),
                ("two: ( 1 )2\n{ two | 5 6 }", ["two"], "{ ( 1 )2 | 5 6 }")]:
            self.assertEqual(unit_names(text), names)
            self.assertEqual(link(text).text, program)
            self.assertTrue(self.check(text))

    def test_wrong_places_by_hand(self):
        for text, place in [
                (" ", (0, 0)), ("x", (0, 0)), ("aa", (0, 0)), ("aa: r1", (0, 0)), ("r1\n", (0, 0)), ("\n", (0, 0)),
                ("\nr1", (0, 0)), ("aa:\n", (0, 1)), ("aa: \n", (0, 1)), ("aa:", (0, 0)), ("aa: r1\naa: r1\n", (1, 0)),
                ("aa: r1\n\n", (1, 0)), ("aa: aa\n", (0, 1)), ("aa: bb\nbb: r1\n", (0, 1)), ("aa: r1\nbb", (1, 0)),
                ("aa: r1\nbb: aa bb\n", (1, 2)), ("aa: ( r1\n", (0, 3)), ("aa: r1 )2\n", (0, 2)),
                ("aa: ( )2\n", (0, 2)), ("aa: r1\n( aa", (1, 2)), ("aa: r1\n{ aa | 1 }", (1, 4)),
                ("aa: 1\n{ aa | }", (1, 3)), ("aa: 1\nbb: { aa | aa aa }\n", (1, 6)), ("aa: 1\nr1 aa:", (1, 1)),
                ("aa: r1\nbb: r1 aa: d\n", (1, 2)), ("aa: r1\n aa", (1, 0)), ("aa: r1\naa ", (1, 1)),
                ("aa: r1  d\n", (0, 2)), ("aa: r1\nAA", (1, 0)), ("aa: x\nbb: x\nx", (0, 1)), ("aa: r1\r\naa", (0, 1)),
                ("aa: r1\nbb\nx", (1, 0))]:
            self.wrong_at(text, place)
            self.check(text)

    def test_values_that_are_no_strings(self):
        for value in [*reference.STRANGE, 0, 1, 10 ** 300, (), ("r1",), ["aa: r1", "aa"], Program("r1"), b"aa: r1\naa"]:
            self.wrong_at(value, (None, None))

    def test_source_texts(self):
        rng = random.Random(101)
        for turn in range(400):
            text = makers.source_text(rng, rng.randint(1, 20), rng.randint(1, 12), rng.randint(0, 3), turn % 2 == 0,
                                      (2, 3, MOST), rng.choice([1, 3, 8]))
            self.assertTrue(self.check(text), text)

    def test_names(self):
        for name in WRONG_NAMES:
            self.wrong_at(f"{name} r1\n", (0, 0))
            self.wrong_at(f"aa: r1\n{name} r1\nbb: x\n", (1, 0))
        for name in ("ab", "zz", "abcdefgh", "dd", "pp", "rd", "in", "lit"):
            self.assertEqual(unit_names(f"{name}: r1\n{name}"), [name])
            self.check(f"{name}: r1\n{name}")
            self.wrong_at(f"{name}: {name}\n", (0, 1))
            self.wrong_at(f"{name}", (0, 0))

    def test_odd_words(self):
        for word in ODD_WORDS:
            word = word.replace("\n", "\t")
            self.wrong_at(f"aa: {word} d\n", (0, 1))
            self.wrong_at(f"aa: r1\nbb: aa {word}\nx", (1, 2))
            self.wrong_at(f"aa: r1\nbb: r1\naa bb {word}", (2, 2))

    def test_number_of_lines(self):
        for count in range(18, 26):
            names = [f"{chr(97 + at)}{chr(97 + at)}" for at in range(count - 1)]
            lines = [f"{name}: " + ("r1" if at == 0 else f"{names[at - 1]} r1") for at, name in enumerate(names)]
            text = "\n".join(lines + [names[-1]])
            if count > 20:
                self.wrong_at(text, (20, 0))
                self.wrong_at(text.replace("ss: rr r1", "ss: rr x"), (18, 2))
                self.wrong_at("\n".join(lines[:19] + ["r1"] + lines[19:]), (19, 0))
                self.wrong_at("\n".join(lines[:20] + ["", ""]), (20, 0))
                self.wrong_at("\n".join(lines[:20] + ["x", "y"]), (20, 0))
            else:
                self.assertEqual(len(unit_names(text)), count - 1)
            self.check(text)
        self.wrong_at("\n" * 30, (0, 0))

    def test_number_of_words(self):
        for count in range(996, 1004):
            words = ["r1"] * count
            for line in (words, ["(", *words[2:], ")9"], [*words[1:], "aa"], [*words[1:], "x"], ["("] + words[1:]):
                line = " ".join(line)
                self.check(line)
                self.check("aa: d\n" + line)
                self.check("bb: " + line + "\nbb")
                self.check("aa: r1\nbb: " + line + "\naa bb")
                self.check("aa: r1\nbb: " + line + "\naa x")
        text = "bb: " + " ".join(["r1"] * 1000) + "\nbb"
        self.assertEqual(len(link(text)), 1000)
        self.wrong_at(text.replace("\n", " r1\n"), (0, 1001))
        self.wrong_at("aa: r1\n" + " ".join(["r1"] * 1001), (1, 1000))

    def test_open_brackets(self):
        for count in (10, 11, 12, 13, 14):
            for sign, end in (("(", ")2"), ("{", "| r1 }")):
                words = f"{sign} " * count + "r1" + f" {end}" * count
                for text in (words, f"aa: {words}\naa", f"aa: r1\nbb: d {words}\nbb", f"aa: r1\naa {words} aa",
                             words.replace("r1", "x", 1)):
                    self.check(text)
        words = "( " * 13 + "r1" + " )2" * 13
        self.wrong_at(words, (0, 12))
        self.wrong_at(f"aa: {words}\n", (0, 13))
        self.wrong_at(f"aa: r1\nbb: aa {words}\n", (1, 14))

    def test_growth_of_names(self):
        for growth in (-2, -1, 0, 1, 2):
            words = " ".join(["d"] * -growth + ["7"] * growth) or "r1"
            for other in (-2, -1, 0, 1, 2):
                others = " ".join(["d"] * -other + ["7"] * other)
                self.check(f"aa: {words}\n{{ aa | {others} }}".replace("  ", " "))
                self.check(f"aa: {words}\nbb: ( aa )2\n{{ {others} | bb }}".replace("  ", " "))
                self.check(f"aa: {words}\nbb: r1 {others or 'r2'}\ncc: {{ aa | bb }}\ncc")
        self.check(f"aa: ( 1 ){MOST}\nbb: ( aa ){MOST}\n{{ bb | ( aa ){MOST} }}")
        self.check(f"aa: ( 1 ){MOST}\nbb: ( aa ){MOST}\n{{ bb | ( aa ){MOST - 1} }}")

    def test_changed_words(self):
        rng, right = random.Random(102), 0
        for turn in range(1500):
            text = makers.source_text(rng, rng.randint(1, 8), rng.randint(1, 10), 3, turn % 2 == 0, (2, 3, MOST), 3)
            lines = [line.split(" ") for line in text.split("\n")]
            words = lines[rng.randrange(len(lines))]
            other = rng.choice([word for line in lines for word in line] + ["(", "{", "|", "}", ")2", "x", "", "aa:"])
            at, place = rng.randrange(len(words)), rng.randrange(len(words))
            kind = rng.randrange(4)
            if kind == 0:
                words[at] = other
            elif kind == 1:
                words.insert(at, other)
            elif kind == 2:
                del words[at]
            else:
                words[at], words[place] = words[place], words[at]
            right += self.check("\n".join(" ".join(line) for line in lines))
        self.assertGreater(right, 200)
        self.assertLess(right, 1300)

    def test_changed_lines(self):
        rng = random.Random(103)
        for turn in range(600):
            text = makers.source_text(rng, rng.randint(1, 20), 4, 2, turn % 2 == 0, (2, 3), 3)
            lines = text.split("\n")
            at, place = rng.randrange(len(lines)), rng.randrange(len(lines))
            kind = rng.randrange(5)
            if kind == 0:
                del lines[at]
            elif kind == 1:
                lines.insert(place, lines[at])
            elif kind == 2:
                lines[at], lines[place] = lines[place], lines[at]
            elif kind == 3:
                lines[at] = rng.choice(["", "aa:", "x", "d", lines[at] + " ", lines[at].split(" ")[0]])
            else:
                lines.insert(at, "")
            self.check("\n".join(lines))

    def test_one_line_is_a_program_text(self):
        rng = random.Random(104)
        for turn in range(200):
            text = makers.text(rng, rng.randint(0, 30), 4, turn % 2 == 0, (2, 3, MOST), 6)
            self.assertTrue(link(text) == Program(text))
            self.assertEqual(unit_names(text), [])

    def test_returned_lists_are_new(self):
        text = "aa: r1\nbb: aa\nbb"
        names = unit_names(text)
        names.append("cc")
        self.assertEqual(unit_names(text), ["aa", "bb"])
        self.assertIsNot(unit_names(text), unit_names(text))

    def test_equal_arguments_give_equal_results(self):
        text = "aa: ( r2 7 )2\nbb: aa d aa\nbb d"
        self.assertTrue(link(text) == link(text) == Program(link(text).text))
        self.assertTrue(unit_effect(text, "bb") == effect_of(unit(text, "bb")) == unit_effect(text, "bb"))


class LimitsTest(SourceCase):
    """TooLarge, TooDeep and TooHigh, in this order, for the returned program only."""

    def lines(self, first, step, count):
        """Return a source text in which each line but the first one has the step, in which ? is the line before."""
        names = [f"{chr(97 + at)}x" for at in range(count)]
        found = [f"{names[0]}: {first}"]
        found += [f"{names[at]}: " + step.replace("?", names[at - 1]) for at in range(1, count)]
        return "\n".join(found + [names[-1]])

    def test_lines_that_double(self):
        for first in ("r1", "r1 r2 d 1 d", "( r1 )2", "{ | }"):
            for step in ("? ?", "? r1 ?", "? ? ? ? ? ? ? ? ? ?", "( ? ? )2"):
                for count in (1, 2, 3, 7, 8, 9, 10, 11, 19):
                    self.check(self.lines(first, step, count))
        text = self.lines("r1", "? ?", 19)
        self.expect(lambda: unit(text, "ax"), "r1", text)
        self.expect(lambda: unit(text, "jx"), " ".join(["r1"] * 512), text)
        self.expect(lambda: unit(text, "kx"), ("TooLarge", 1000), text)
        self.expect(lambda: link(text), ("TooLarge", 1000), text)

    def test_exactly_1000_words(self):
        for count in range(996, 1004):
            first, body = " ".join(["r1"] * 500), " ".join(["r1"] * (count - 502))
            text = f"aa: {first}\nbb: ( {body} )2\naa bb"
            self.expect(lambda: link(text), f"{first} ( {body} )2" if count <= 1000 else ("TooLarge", 1000), text[:99])
            self.check(text)

    def test_lines_that_nest(self):
        for first in ("r1", "( r1 )2", "( ( { r1 | } )2 )2"):
            for step in ("( ? )2", "( ( ? )2 r1 )2", "{ ? | ? }", "{ r1 | ( ? )2 }", "d 1 ( ? )3"):
                for count in range(1, 20):
                    self.check(self.lines(first, step, count))
        text = self.lines("( r1 )2", "( ? )2", 13)
        self.expect(lambda: unit(text, "lx"), "( " * 12 + "r1" + " )2" * 12, text)
        self.expect(lambda: unit(text, "mx"), ("TooDeep", 12), text)
        self.expect(lambda: link(text), ("TooDeep", 12), text)

    def test_lines_that_push(self):
        for first in ("1", "d", "p0", "p50", "1 1 1", "r60"):
            for step in ("? ?", "( ? )2", "? r90", "? d d", "? 1 2", f"( ? ){MOST}"):
                for count in range(1, 12):
                    self.check(self.lines(first, step, count))
        text = self.lines("1", "? ?", 8)
        self.assertEqual(unit(text, "gx").growth, 64)
        self.expect(lambda: unit(text, "hx"), ("TooHigh", 100), text)

    def test_the_order_of_the_errors(self):
        large = self.lines("( r99 1 )2", "? ? ( ? )2", 19)
        self.expect(lambda: link(large), ("TooLarge", 1000), large)
        deep = self.lines("( 1 1 )100", "( ? )2", 19)
        self.expect(lambda: link(deep), ("TooDeep", 12), deep)
        self.expect(lambda: unit(deep, "ax"), ("TooHigh", 100), deep)

    def test_lines_that_are_not_used_do_not_matter(self):
        for step, first in (("? ?", "r1"), ("( ( ? )2 )2", "r1"), ("? ?", "1"), (f"( ? ){MOST}", "d")):
            text = self.lines(first, step, 18)
            text = text[:text.rindex("\n")] + "\nzz: r2 7\n( zz d )5"
            self.expect(lambda: link(text), "( r2 7 d )5", text)
            self.expect(lambda: unit(text, "zz"), "r2 7", text)
            self.expect(lambda: unit(text, "ax"), first, text)
            self.assertEqual(unit_steps(text, "zz"), 2)
            self.assertTrue(unit_effect(text, "zz") == effect_of(Program("r2 7")))

    def test_kinds(self):
        for error, text in ((TooLarge, self.lines("r1", "? ?", 15)), (TooDeep, self.lines("r1", "( ? )2", 15)),
                            (TooHigh, self.lines("1", "? 1", 3).replace("ax: 1", "ax: ( 1 )99"))):
            with self.assertRaises(error) as caught:
                link(text)
            self.assertIs(type(caught.exception), error)


if __name__ == "__main__":
    unittest.main()
