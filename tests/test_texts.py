"""Promise 23: numbers read from texts; whatever else is refused with NoRow."""

import random
import unittest
from fractions import Fraction

from slackchain.errors import NoRow
from slackchain.ratios import show_fraction
from slackchain.texts import read_fraction, read_whole
from tests.samples import SIXTY, other_kinds, pair

# Signs that other alphabets count as figures, or that look like a sign of a number.
STRANGE = [
    "\u0661", "\u0967", "\uff11", "\u00b2", "\u00bd", "\u2460", "\U0001d7d9", "\u2212", "\uff0d", "\u2044", "\u2013",
]

NO_WHOLES = [
    "", " ", "-", "+", "/", "\n", "-0", "-1", "-12", "+1", "+0", "00", "01", "007", "0" * 60, "0" + "1" * 59, "1 ",
    " 1", "1\n", "\n1", "0\n", "1\t", "1\r", "1\x00", "1 2", "1  2", "1_000", "1,5", "1.5", "1.", ".5", "1e3", "0x1",
    "0b1", "1L", "one", "a", "1a", "a1", "--1", "1-", "- 1", "1" * 61, "9" * 61, "1" + "0" * 60, "1" * 1000, "9" * 5000,
    "True", "None", "nan", "inf", "(1, 2)", "[1]", "'1'", "~", "1~",
]
NO_FRACTIONS = [
    "1/1", "0/1", "12/1", "-12/1", "1/0", "0/0", "-1/0", "2/4", "-2/4", "6/3", "3/3", "0/2", "0/5", "-0/5", "-0",
    "1/-2", "-1/-2", "1/+2", "+1/2", "--1/2", "-+1/2", "+-1", "1/2/3", "1//2", "/2", "1/", "-/2", "-1/", "/", "//",
    "-/", "01/2", "1/02", "1/00", "00/1", "1/2 ", " 1/2", "1 /2", "1/ 2", "1 / 2", "1/2\n", "\n1/2", "1\n/2", "1/\n2",
    "-1\n", "- 1/2", "-1/ 2", "1\\2", "1:2", "1/a", "a/2", "1/2a", "1.0/2", "1/2.0", "-a", "1-/2", "1/2-", "-1-2",
    "1-2",
    "1" * 61 + "/2", "1/" + "1" * 61, "-" + "1" * 61, "-" + "1" * 61 + "/2", "0" * 59 + "1/2", "1/" + "0" * 59 + "2",
    str(SIXTY) + "/" + str(SIXTY), str(SIXTY) + "/3", "3/" + str(SIXTY), "-01", "-00", "-01/2",
]


class Reads(unittest.TestCase):
    def refused(self, read, text):
        with self.assertRaises(NoRow, msg=repr(text)[:80]) as caught:
            read(text)
        self.assertIs(type(caught.exception), NoRow)

    def told(self, read, text, due):
        value = read(text)
        self.assertEqual(value, due)
        self.assertIs(type(value), type(due))
        if type(value) is tuple:
            self.assertEqual([type(number) for number in value], [int, int])


class Wholes(Reads):
    def test_figures(self):
        for number in list(range(120)) + [999999, 1000000, 10 ** 59, SIXTY, SIXTY - 1, int("123456789" * 6)]:
            self.told(read_whole, str(number), number)

    def test_sixty_figures_and_one_more(self):
        for figures in range(1, 61):
            self.told(read_whole, "9" * figures, 10 ** figures - 1)
            self.told(read_whole, "1" + "0" * (figures - 1), 10 ** (figures - 1))
        self.refused(read_whole, "9" * 61)
        self.refused(read_whole, "1" + "0" * 60)

    def test_other_texts(self):
        for text in NO_WHOLES + NO_FRACTIONS + ["1/2", "-1/2", "3/4"]:
            self.refused(read_whole, text)

    def test_other_alphabets(self):
        for sign in STRANGE:
            for text in (sign, "1" + sign, sign + "1", "1" + sign + "2"):
                self.refused(read_whole, text)

    def test_every_sign(self):
        for number in range(0x300):
            sign = chr(number)
            if sign in "0123456789":
                self.told(read_whole, sign, int(sign))
                self.told(read_whole, "1" + sign, 10 + int(sign))
            else:
                for text in (sign, "1" + sign, sign + "1", "1" + sign + "1"):
                    self.refused(read_whole, text)

    def test_other_kinds(self):
        for thing in other_kinds() + [12, (1, 1), (1, 2), ["1"], ("1",), b"1", 1.0, Fraction(1)]:
            self.refused(read_whole, thing)


class Fractions(Reads):
    def test_whole_numbers(self):
        for number in list(range(-60, 60)) + [SIXTY, -SIXTY, 10 ** 59, -10 ** 59]:
            self.told(read_fraction, str(number), (number, 1))

    def test_lowest_terms_alone(self):
        for top in range(-30, 31):
            for bottom in range(0, 31):
                text = f"{top}/{bottom}"
                if bottom > 1 and Fraction(top, bottom).denominator == bottom:
                    self.told(read_fraction, text, (top, bottom))
                else:
                    self.refused(read_fraction, text)

    def test_sixty_figures_and_one_more(self):
        self.told(read_fraction, f"{SIXTY}/{SIXTY - 1}", (SIXTY, SIXTY - 1))
        self.told(read_fraction, f"-{SIXTY - 1}/{SIXTY}", (1 - SIXTY, SIXTY))
        self.told(read_fraction, f"1/{10 ** 59}", (1, 10 ** 59))
        self.refused(read_fraction, f"1/{10 ** 60}")
        self.refused(read_fraction, f"{10 ** 60}")
        self.refused(read_fraction, f"{10 ** 60 + 1}/2")
        self.refused(read_fraction, f"-{10 ** 60}")

    def test_as_it_is_written(self):
        chance = random.Random(1)
        for turn in range(500):
            figures = chance.randint(1, 60)
            most = 10 ** figures - 1
            value = Fraction(chance.randint(-most, most), chance.randint(1, most))
            self.told(read_fraction, show_fraction(pair(value)), pair(value))

    def test_other_texts(self):
        for text in NO_FRACTIONS:
            self.refused(read_fraction, text)
        for text in NO_WHOLES:
            if text not in ("-1", "-12"):
                self.refused(read_fraction, text)
                self.refused(read_fraction, text + "/7")
                self.refused(read_fraction, "1/" + text)

    def test_other_alphabets(self):
        for sign in STRANGE:
            for text in (sign, "1" + sign, sign + "1", sign + "/2", "1/" + sign, "1/2" + sign, "1" + sign + "2",
                         "-" + sign, "-1/" + sign):
                self.refused(read_fraction, text)

    def test_every_sign(self):
        for number in range(0x300):
            sign = chr(number)
            if sign not in "0123456789":
                for text in (sign, "1" + sign, "1/2" + sign, "1" + sign + "/2"):
                    self.refused(read_fraction, text)
                if sign != "-":
                    self.refused(read_fraction, sign + "1")
                    self.refused(read_fraction, sign + "1/2")
                if sign != "/":
                    self.refused(read_fraction, "1" + sign + "2")

    def test_other_kinds(self):
        for thing in other_kinds() + [12, (1, 1), (1, 2), ["1"], ("1", "2"), b"1/2", 1.5, Fraction(1, 2)]:
            self.refused(read_fraction, thing)


if __name__ == "__main__":
    unittest.main()
