"""Promise 4: fractions; promise 2 for them."""

import random
import unittest
from fractions import Fraction

from slackchain.errors import NoNumber
from slackchain.ratios import Scale, fraction, minus, over, plus, show_fraction, times, under

SIXTY = 10 ** 60 - 1
SIXTY_OTHER = 10 ** 60 - 11
FOUR_HUNDRED = 10 ** 400 - 1
FOUR_HUNDRED_OTHER = 10 ** 400 - 3

SAMPLE = [
    (0, 1), (1, 1), (-1, 1), (1, 2), (-1, 2), (2, 3), (-2, 3), (5, 6), (-5, 6), (7, 4), (-7, 4),
    (12, 1), (-12, 1), (1, 12), (-1, 12), (35, 12), (-35, 12), (22, 7), (355, 113),
    (SIXTY, 1), (-SIXTY, 1), (1, SIXTY), (-1, SIXTY), (SIXTY, SIXTY_OTHER), (-SIXTY_OTHER, SIXTY),
    (FOUR_HUNDRED, FOUR_HUNDRED_OTHER), (-FOUR_HUNDRED_OTHER, FOUR_HUNDRED), (1, FOUR_HUNDRED),
]


def pair(value):
    return (value.numerator, value.denominator)


class Sample(unittest.TestCase):
    def test_all_are_fractions(self):
        for one in SAMPLE:
            self.assertEqual(pair(Fraction(*one)), one)


class Plain(unittest.TestCase):
    def check(self, told, top, bottom):
        self.assertIs(type(told), tuple)
        self.assertEqual(told, (top, bottom))
        self.assertEqual([type(part) for part in told], [int, int])


class Made(Plain):
    def test_ordinary(self):
        self.check(fraction(3, 4), 3, 4)
        self.check(fraction(7, 1), 7, 1)
        self.check(fraction(1, 9), 1, 9)

    def test_common_divisor(self):
        self.check(fraction(6, 8), 3, 4)
        self.check(fraction(8, 6), 4, 3)
        self.check(fraction(12, 4), 3, 1)
        self.check(fraction(4, 12), 1, 3)
        self.check(fraction(5, 5), 1, 1)
        self.check(fraction(36, 48), 3, 4)

    def test_below_nought_on_either_side(self):
        self.check(fraction(-3, 4), -3, 4)
        self.check(fraction(3, -4), -3, 4)
        self.check(fraction(-3, -4), 3, 4)
        self.check(fraction(-6, 8), -3, 4)
        self.check(fraction(6, -8), -3, 4)
        self.check(fraction(-6, -8), 3, 4)
        self.check(fraction(-5, 5), -1, 1)
        self.check(fraction(5, -1), -5, 1)

    def test_top_nought(self):
        self.check(fraction(0), 0, 1)
        self.check(fraction(0, 1), 0, 1)
        self.check(fraction(0, 7), 0, 1)
        self.check(fraction(0, -7), 0, 1)
        self.check(fraction(0, SIXTY), 0, 1)

    def test_bottom_left_out(self):
        self.check(fraction(5), 5, 1)
        self.check(fraction(-5), -5, 1)
        self.check(fraction(SIXTY), SIXTY, 1)

    def test_by_name(self):
        self.check(fraction(top=2, bottom=4), 1, 2)

    def test_sixty_figures(self):
        self.assertEqual(len(str(SIXTY)), 60)
        self.check(fraction(SIXTY, 3), SIXTY // 3, 1)
        self.check(fraction(SIXTY, SIXTY), 1, 1)
        self.check(fraction(SIXTY, -SIXTY), -1, 1)
        self.check(fraction(SIXTY, SIXTY - 1), SIXTY, SIXTY - 1)
        self.check(fraction(-3 * 10 ** 59, 9 * 10 ** 59), -1, 3)

    def test_four_hundred_figures(self):
        self.assertEqual(len(str(FOUR_HUNDRED)), 400)
        self.check(fraction(FOUR_HUNDRED, FOUR_HUNDRED - 1), FOUR_HUNDRED, FOUR_HUNDRED - 1)
        self.check(fraction(FOUR_HUNDRED, 9), FOUR_HUNDRED // 9, 1)

    def test_bottom_nought_is_refused(self):
        for top in (0, 1, -1, 7, SIXTY, -SIXTY):
            with self.subTest(top=top), self.assertRaises(NoNumber):
                fraction(top, 0)

    def test_small_numbers_all(self):
        for top in range(-24, 25):
            for bottom in range(-24, 25):
                if bottom != 0:
                    self.check(fraction(top, bottom), *pair(Fraction(top, bottom)))


class Reckoned(Plain):
    def test_sums(self):
        self.check(plus((1, 2), (1, 3)), 5, 6)
        self.check(plus((1, 6), (1, 3)), 1, 2)
        self.check(plus((1, 2), (1, 2)), 1, 1)
        self.check(plus((1, 2), (-1, 2)), 0, 1)
        self.check(plus((-1, 6), (-1, 3)), -1, 2)
        self.check(plus((0, 1), (0, 1)), 0, 1)

    def test_differences(self):
        self.check(minus((1, 2), (1, 3)), 1, 6)
        self.check(minus((1, 3), (1, 2)), -1, 6)
        self.check(minus((5, 6), (1, 3)), 1, 2)
        self.check(minus((3, 4), (3, 4)), 0, 1)
        self.check(minus((-1, 4), (-3, 4)), 1, 2)
        self.check(minus((0, 1), (2, 3)), -2, 3)

    def test_products(self):
        self.check(times((2, 3), (3, 4)), 1, 2)
        self.check(times((-2, 3), (3, 2)), -1, 1)
        self.check(times((-2, 3), (-3, 4)), 1, 2)
        self.check(times((0, 1), (-3, 4)), 0, 1)

    def test_quotients(self):
        self.check(over((1, 2), (3, 4)), 2, 3)
        self.check(over((1, 2), (-3, 4)), -2, 3)
        self.check(over((-1, 2), (-3, 4)), 2, 3)
        self.check(over((0, 1), (-3, 4)), 0, 1)
        self.check(over((5, 7), (5, 7)), 1, 1)

    def test_over_nought_is_refused(self):
        for one in SAMPLE:
            with self.subTest(one=one), self.assertRaises(NoNumber):
                over(one, (0, 1))

    def test_each_with_each(self):
        for one in SAMPLE:
            for other in SAMPLE:
                left = Fraction(*one)
                right = Fraction(*other)
                self.check(plus(one, other), *pair(left + right))
                self.check(minus(one, other), *pair(left - right))
                self.check(times(one, other), *pair(left * right))
                if right != 0:
                    self.check(over(one, other), *pair(left / right))

    def test_small_fractions_all(self):
        small = sorted({pair(Fraction(top, bottom)) for top in range(-13, 14) for bottom in range(1, 13)})
        for one in small:
            for other in small:
                self.check(plus(one, other), *pair(Fraction(*one) + Fraction(*other)))
                self.check(minus(one, other), *pair(Fraction(*one) - Fraction(*other)))
                self.check(times(one, other), *pair(Fraction(*one) * Fraction(*other)))
                if other != (0, 1):
                    self.check(over(one, other), *pair(Fraction(*one) / Fraction(*other)))

    def test_told_numbers_have_as_many_figures_as_they_need(self):
        told = times((FOUR_HUNDRED, 1), (FOUR_HUNDRED, 1))
        self.check(told, FOUR_HUNDRED ** 2, 1)
        self.check(plus((1, FOUR_HUNDRED), (1, FOUR_HUNDRED - 1)),
                   2 * FOUR_HUNDRED - 1, FOUR_HUNDRED * (FOUR_HUNDRED - 1))


class Compared(unittest.TestCase):
    def test_less_and_not(self):
        self.assertIs(under((1, 3), (1, 2)), True)
        self.assertIs(under((1, 2), (1, 3)), False)
        self.assertIs(under((2, 3), (3, 4)), True)
        self.assertIs(under((7, 1), (22, 3)), True)

    def test_equal_ones(self):
        for one in SAMPLE:
            with self.subTest(one=one):
                self.assertIs(under(one, one), False)

    def test_below_nought(self):
        self.assertIs(under((-1, 2), (-1, 3)), True)
        self.assertIs(under((-1, 3), (-1, 2)), False)
        self.assertIs(under((-1, 3), (0, 1)), True)
        self.assertIs(under((0, 1), (-1, 3)), False)
        self.assertIs(under((-5, 1), (1, 9)), True)
        self.assertIs(under((1, 9), (-5, 1)), False)

    def test_great_ones_that_lie_close(self):
        self.assertIs(under((SIXTY - 1, SIXTY), (SIXTY, SIXTY + 1)), True)
        self.assertIs(under((SIXTY, SIXTY + 1), (SIXTY - 1, SIXTY)), False)
        self.assertIs(under((FOUR_HUNDRED - 1, FOUR_HUNDRED), (1, 1)), True)

    def test_each_with_each(self):
        for one in SAMPLE:
            for other in SAMPLE:
                self.assertIs(under(one, other), Fraction(*one) < Fraction(*other))


class Written(unittest.TestCase):
    def test_without_a_bottom(self):
        self.assertEqual(show_fraction((5, 1)), "5")
        self.assertEqual(show_fraction((0, 1)), "0")
        self.assertEqual(show_fraction((1, 1)), "1")
        self.assertEqual(show_fraction((10, 1)), "10")

    def test_with_a_bottom(self):
        self.assertEqual(show_fraction((1, 2)), "1/2")
        self.assertEqual(show_fraction((22, 7)), "22/7")
        self.assertEqual(show_fraction((1, 10)), "1/10")

    def test_below_nought(self):
        self.assertEqual(show_fraction((-5, 1)), "-5")
        self.assertEqual(show_fraction((-1, 2)), "-1/2")

    def test_great_ones(self):
        self.assertEqual(show_fraction((-SIXTY, 1)), "-" + "9" * 60)
        self.assertEqual(show_fraction((1, FOUR_HUNDRED)), "1/" + "9" * 400)
        self.assertEqual(show_fraction((10 ** 3999 + 1, 10 ** 3999)),
                         "1" + "0" * 3998 + "1/1" + "0" * 3999)


class Same(unittest.TestCase):
    def test_the_same_is_told_each_time(self):
        for one in SAMPLE:
            self.assertEqual(show_fraction(one), show_fraction(one))
            self.assertEqual(fraction(*one), fraction(*one))
            for other in SAMPLE:
                for reckon in (plus, minus, times, under):
                    self.assertEqual(reckon(one, other), reckon(one, other))

    def test_what_is_refused_changes_nothing(self):
        ahead = fraction(6, 8)
        with self.assertRaises(NoNumber):
            fraction(6, 0)
        with self.assertRaises(NoNumber):
            over((6, 1), (0, 1))
        self.assertEqual(fraction(6, 8), ahead)


class Scales(unittest.TestCase):
    def test_lifted_and_lowered(self):
        for seed in range(200):
            chance = random.Random(seed)
            numbers = [pair(Fraction(chance.randint(-40, 40), chance.randint(1, 40))) for turn in range(seed % 6)]
            scale = Scale(numbers)
            for number in numbers:
                self.assertEqual(scale.lifted(number)[1], 1)
            for turn in range(20):
                value = Fraction(chance.randint(-99, 99), chance.randint(1, 99))
                self.assertEqual(scale.lifted(pair(value)), pair(value * scale.bottom))
                self.assertEqual(scale.lowered(pair(value)), pair(value / scale.bottom))


if __name__ == "__main__":
    unittest.main()
