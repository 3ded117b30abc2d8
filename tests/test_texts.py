"""[4], [6] to [8], section 4: which texts Program accepts, and the number of the first wrong word."""

import random
import unittest

from stackworks.errors import InvalidText, StackError, TooHigh
from stackworks.programs import Program
from tests import makers, reference

MOST = 10 ** 30
ODD_WORDS = [
    "", "-", "-0", "+1", "01", "-01", "00", "1.0", "1_0", "x", "P1", "R1", "D", "dd", "d1", "p", "r", "p-1", "r-1",
    "p+1", "p01", "r01", "p00", "p99", "p100", "r0", "r00", "r100", "p1000000000000000000000000000000000", "p1p",
    str(MOST + 1), str(-MOST - 1), "9" * 5000, "-" + "9" * 5000, "p" + "9" * 5000, ")" + "9" * 5000,
    "1\n", "\n", "r1\n",
    ")", ")0", ")1", ")-2", ")02", f"){MOST + 1}", ")x", ")+2", "((", "()", "{}", "||", "[", "]", "\u0663",
    "p\u0663", "\u00b2", "r\u00b9", ")\uff12", "1e3", "0x1", "--1", "\t", "1\t", "d\r",
]
GOOD_WORDS = ["0", "7", "-1", str(MOST), str(-MOST), "p0", "p98", "r1", "r99", "d", "p10", "r10"]
SIGNS = ["(", "{", "|", "}", ")2", f"){MOST}", ")7"]


class TextsTest(unittest.TestCase):
    def check(self, text):
        """Compare what Program says to a string with the second reading."""
        wrong = reference.wrong_word(text)
        if wrong is not None:
            with self.assertRaises(InvalidText, msg=text[:300]) as caught:
                Program(text)
            self.assertEqual((caught.exception.index, type(caught.exception)), (wrong, InvalidText), text[:300])
        elif reference.is_high(text):
            with self.assertRaises(TooHigh, msg=text[:300]) as caught:
                Program(text)
            self.assertEqual(caught.exception.limit, 100)
        else:
            self.assertEqual(Program(text).text, text)

    def wrong_at(self, text, index):
        with self.assertRaises(InvalidText, msg=repr(text)) as caught:
            Program(text)
        self.assertEqual(caught.exception.index, index, text)

    def test_instructions(self):
        numbers = [-MOST, -MOST + 1, -11, -10, -1, 0, 1, 9, 10, 10 ** 29, MOST - 1, MOST]
        words = [str(number) for number in numbers] + ["d"]
        words += [f"p{depth}" for depth in range(99)] + [f"r{depth}" for depth in range(1, 100)]
        for word in words:
            self.assertEqual(Program(word).text, word)
            self.check(word)

    def test_words_that_are_none(self):
        for word in ODD_WORDS:
            self.wrong_at(word + " d", 0)
            self.wrong_at("d " + word, 1)
            self.wrong_at("( d " + word + " )2", 2)
            self.wrong_at("{ | 1 d " + word, 4)

    def test_empty_words(self):
        self.assertEqual(len(Program("")), 0)
        for text, index in [(" ", 0), ("  ", 0), (" d", 0), ("d ", 1), ("d  d", 1), ("d d  ", 2), ("( d  )2", 2)]:
            self.wrong_at(text, index)

    def test_brackets_that_are_wrong(self):
        table = [
            (")2", 0), ("|", 0), ("}", 0), ("d )2", 1), ("d |", 1), ("d }", 1), ("( )2", 1), ("( d |", 2), ("( d }", 2),
            ("{ )2", 1), ("{ }", 1), ("{ d }", 2), ("{ | |", 2), ("{ | )2", 2), ("{ d | )2", 3), ("{ d | d |", 4),
            ("( d )2 )2", 3), ("( { | )2", 3), ("{ ( d | }", 3), ("{ ( d )2 } }", 4), ("( ( )2 )2", 2),
            ("( d", 2), ("(", 1), ("{", 1), ("{ |", 2), ("{ d | d", 4), ("( { | }", 4), ("( ( d )2", 4), ("{ | } (", 4),
            ("{ | 1 }", 3), ("{ 1 | }", 3), ("{ p0 | r1 }", 4), ("{ d | d d }", 5), ("{ | { | 1 } }", 5),
            ("{ ( 1 )2 | 1 }", 6), ("d x )2", 1), ("( x", 1),
        ]
        for text, index in table:
            self.wrong_at(text, index)
            self.check(text)

    def test_brackets_that_are_right(self):
        table = [
            "( d )2", "{ | }", "( { | } )2", "{ { | } | { | } }", "{ ( 1 )2 | 1 1 }", "{ d | d }", "( ( ( d )2 )2 )2",
            f"( r1 )2 ( 1 d ){MOST}", "{ | ( r2 )3 }", "{ p3 | -7 }", "( { d | d } 1 )9",
        ]
        for text in table:
            self.assertEqual(Program(text).text, text)
            self.check(text)

    def test_open_brackets(self):
        for opened in ("(", "{", "( {", "{ ("):
            for count in (11, 12, 13, 14):
                signs = (opened.split() * 14)[:count]
                text = " ".join(signs) + " r1"
                for sign in reversed(signs):
                    text += " )2" if sign == "(" else " | r1 }"
                if count > 12:
                    self.wrong_at(text, 12)
                self.check(text)
                self.check("d " + text)
                self.check(text + " " + text)
                self.check("x" + text)
        self.wrong_at("( " * 12 + "x " + "( " * 3, 12)
        self.wrong_at("( d )2 " + "( " * 12 + "{", 15)

    def test_number_of_words(self):
        for count in range(998, 1004):
            for text in (
                    " ".join(["r1"] * count), " ".join((["(", "r1", ")2"] * 400)[:count]),
                    "( " + " ".join(["r1"] * (count - 2)) + " )9", "{ | " + " ".join(["r1"] * (count - 3)) + " }",
                    "( " + " ".join(["r1"] * (count - 1)), " ".join(["r1"] * (count - 1)) + " x", "r1 " * count,
                    " ".join(["r1"] * (count - 1)) + " )2", "r1 x " + "r1 " * count):
                self.check(text)
        self.assertEqual(len(Program(" ".join(["r1"] * 1000))), 1000)
        self.wrong_at(" ".join(["r1"] * 1001), 1000)
        self.wrong_at(" ".join(["r1"] * 5000), 1000)
        self.wrong_at(" ".join(["r1"] * 999 + ["x", "r1"]), 999)
        self.wrong_at(" ".join(["("] + ["r1"] * 999), 1000)
        self.wrong_at(" ".join(["1"] * 1001), 1000)

    def test_the_longest_text(self):
        text = " ".join([str(-MOST), "d"] * 500)
        self.assertEqual(Program(text).text, text)

    def test_too_high(self):
        fill = [" ".join(["1"] * count) for count in range(104)]
        drop = [" ".join(["d"] * count) for count in range(104)]
        for count in range(98, 104):
            texts = [fill[count], drop[count], f"( 1 ){count}", f"( d ){count}", f"p97 {fill[count - 98]}".strip(),
                     f"r99 d {fill[count - 98]}".strip(), f"( 1 1 d ){count}", f"( 1 d d ){count - 1}",
                     "{ " + fill[count] + " | " + fill[count] + " }", f"{drop[50]} {fill[count]}",
                     "{ d | d } " + fill[count], f"{fill[count - 60]} " + f"{drop[count]}",
                     "{ r60 " + drop[9] + " | r2 " + fill[count - 61] + " " + drop[count - 52] + " }"]
            for text in texts:
                self.check(text)
        for text in [fill[101], drop[101], "r99 1", "p98 1", "( 1 )101", f"( 1 ){MOST}", f"( d ){MOST}", "p98 p98",
                     f"( ( 1 ){MOST} ){MOST}", "{ r99 | 1 d }", "p97 d d 1 1 1 1 1"]:
            with self.assertRaises(TooHigh) as caught:
                Program(text)
            self.assertEqual(caught.exception.limit, 100)
        for text in [fill[100], drop[100], "r99", "p98", "( 1 )100", f"( 1 d ){MOST}", f"( r99 ){MOST}"]:
            self.assertEqual(Program(text).text, text)

    def test_wrong_comes_before_high(self):
        self.wrong_at(" ".join(["1"] * 101) + " x", 101)
        self.wrong_at(f"( ( 1 ){MOST} ){MOST} )2", 5)
        self.wrong_at("{ ( 1 )500 | ( 1 )501 }", 8)
        with self.assertRaises(TooHigh):
            Program("{ ( 1 )500 | ( 1 )500 }")

    def test_values_that_are_no_strings(self):
        for value in [*reference.STRANGE, 0, -1, 10 ** 300, (), ("r1",), ["r1"], b"r1", Program("r1"), Program]:
            with self.assertRaises(InvalidText, msg=repr(value)) as caught:
                Program(value)
            self.assertIsNone(caught.exception.index)
            self.assertIsInstance(caught.exception, StackError)

    def test_changed_texts(self):
        rng = random.Random(11)
        for turn in range(2500):
            words = makers.text(rng, rng.randint(1, 40), 4, turn % 2 == 0, (2, 3, MOST), 6).split(" ")
            for change in range(rng.choice([1, 1, 1, 2, 3])):
                word = rng.choice([rng.choice(ODD_WORDS), rng.choice(GOOD_WORDS), rng.choice(SIGNS)])
                at, other = rng.randrange(len(words) + 1), rng.randrange(len(words) + 1)
                kind = rng.randrange(4)
                if kind == 0:
                    words[at:at + 1] = [word]
                elif kind == 1:
                    words.insert(at, word)
                elif kind == 2:
                    del words[at:at + 1]
                elif at < len(words) and other < len(words):
                    words[at], words[other] = words[other], words[at]
            self.check(" ".join(words))

    def test_texts_of_signs(self):
        rng = random.Random(12)
        for turn in range(3000):
            words = ["r1", "1", "d", "(", ")2", "{", "|", "}"]
            self.check(" ".join([rng.choice(words) for place in range(rng.randint(1, 14))]))


if __name__ == "__main__":
    unittest.main()
