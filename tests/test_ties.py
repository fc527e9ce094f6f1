"""Promises 5, 6 and 7: names, ties, when they hold, their steps; promise 2 for them."""

import unittest

from slackchain.errors import NoTie
from slackchain.ties import (
    AtLeast, AtMost, Between, Free, Just, Tie, is_fraction, is_name, tie_of,
)
from tests.samples import FOUR_HUNDRED, LETTERS, NO_FRACTIONS, NO_NAMES, SIXTY, other_kinds


class Names(unittest.TestCase):
    def test_one_to_eight_small_letters(self):
        for size in range(1, 9):
            self.assertIs(is_name("a" * size), True)
            self.assertIs(is_name(LETTERS[:size]), True)
            self.assertIs(is_name(LETTERS[-size:]), True)

    def test_each_small_letter(self):
        for letter in LETTERS:
            self.assertIs(is_name(letter), True)

    def test_of_all_single_signs_the_small_letters_alone(self):
        told = [chr(code) for code in range(0x3000) if is_name(chr(code))]
        self.assertEqual("".join(told), LETTERS)

    def test_each_place_counts(self):
        for place in range(8):
            spoiled = "a" * place + "A" + "a" * (7 - place)
            self.assertIs(is_name(spoiled), False)

    def test_texts_that_are_none(self):
        for text in NO_NAMES:
            with self.subTest(text=text):
                self.assertIs(is_name(text), False)

    def test_other_kinds(self):
        for thing in other_kinds() + [(), ("a",), ("a", "b"), (1, 1)]:
            self.assertIs(is_name(thing), False)


class Fractions(unittest.TestCase):
    def test_good_ones(self):
        for thing in [(0, 1), (1, 1), (-1, 1), (1, 2), (-1, 2), (3, 4), (4, 3), (-3, 4), (22, 7), (SIXTY, 1),
                      (-SIXTY, 1), (1, SIXTY), (SIXTY, SIXTY - 1), (FOUR_HUNDRED, FOUR_HUNDRED - 1),
                      (-FOUR_HUNDRED, 2)]:
            with self.subTest(thing=thing):
                self.assertIs(is_fraction(thing), True)

    def test_those_that_are_none(self):
        for thing in NO_FRACTIONS:
            self.assertIs(is_fraction(thing), False)

    def test_other_kinds(self):
        for thing in other_kinds() + ["", "a"]:
            self.assertIs(is_fraction(thing), False)


GOOD = [
    (Free, ("a", "b", "c", None, None)),
    (AtLeast, ("a", "b", "c", (1, 2), None)),
    (AtLeast, ("a", "b", "c", (0, 1), None)),
    (AtLeast, ("a", "b", "c", (-SIXTY, 1), None)),
    (AtMost, ("a", "b", "c", None, (1, 2))),
    (AtMost, ("a", "b", "c", None, (0, 1))),
    (AtMost, ("a", "b", "c", None, (-1, SIXTY))),
    (Just, ("a", "b", "c", (1, 2), (1, 2))),
    (Just, ("a", "b", "c", (0, 1), (0, 1))),
    (Just, ("a", "b", "c", (-7, 3), (-7, 3))),
    (Just, ("a", "b", "c", (SIXTY, SIXTY - 1), (SIXTY, SIXTY - 1))),
    (Between, ("a", "b", "c", (1, 3), (1, 2))),
    (Between, ("a", "b", "c", (-1, 2), (-1, 3))),
    (Between, ("a", "b", "c", (-1, 1), (1, 1))),
    (Between, ("a", "b", "c", (SIXTY - 1, SIXTY), (SIXTY, SIXTY + 1))),
    (Between, ("a", "b", "c", (1, FOUR_HUNDRED), (1, FOUR_HUNDRED - 1))),
    (Between, ("abcdefgh", "zzzzzzzz", "zzzzzzzy", (0, 1), (1, 1))),
    (Between, ("a", "a", "b", (0, 1), (1, 1))),
    (Between, ("b", "a", "b", (0, 1), (1, 1))),
]

KINDS = [Free, AtLeast, AtMost, Just, Between]


class Made(unittest.TestCase):
    def refused(self, thing):
        with self.assertRaises(NoTie):
            tie_of(thing)

    def test_the_kind_that_is_due(self):
        for kind, row in GOOD:
            with self.subTest(row=row):
                tie = tie_of(row)
                self.assertIs(type(tie), kind)
                self.assertIsInstance(tie, Tie)
                told = tie.plain()
                self.assertIs(type(told), tuple)
                self.assertEqual(told, row)

    def test_no_kind_stands_under_another(self):
        for kind in KINDS:
            self.assertTrue(issubclass(kind, Tie))
            self.assertEqual([one for one in KINDS if issubclass(kind, one)], [kind])

    def test_other_kinds_of_things(self):
        for thing in other_kinds():
            self.refused(thing)
        for kind, row in GOOD:
            self.refused(list(row))
            self.refused(tie_of(row))
        self.refused("abcde")
        self.refused({"a": 1, "b": 1, "c": 1, "d": 1, "e": 1})
        self.refused("tie a b 1 2")

    def test_other_lengths(self):
        row = ("a", "b", "c", (0, 1), (1, 1))
        for size in range(5):
            self.refused(row[:size])
        self.refused(row + (None,))
        self.refused(row + row)
        self.refused((row,))

    def test_spoiled_names_and_faces(self):
        row = ("a", "b", "c", (0, 1), (1, 1))
        spoils = NO_NAMES + other_kinds() + [("a",), ("a", "b")]
        for place in range(3):
            for spoil in spoils:
                self.refused(row[:place] + (spoil,) + row[place + 1:])

    def test_spoiled_bounds(self):
        spoils = NO_FRACTIONS + [thing for thing in other_kinds() if thing is not None] + ["", "a", "-"]
        for spoil in spoils:
            for other in [None, (0, 1), (1, 1), (-1, 1), (1, 2)]:
                self.refused(("a", "b", "c", spoil, other))
                self.refused(("a", "b", "c", other, spoil))
            self.refused(("a", "b", "c", spoil, spoil))

    def test_all_spoiled(self):
        for spoil in other_kinds():
            self.refused((spoil,) * 5)

    def test_faces_alike(self):
        for least, greatest in [(None, None), ((0, 1), None), (None, (0, 1)), ((0, 1), (0, 1)), ((0, 1), (1, 1))]:
            self.refused(("a", "b", "b", least, greatest))
        self.refused(("a", "".join(["x", "y"]), "".join(["x", "y"]), None, None))

    def test_least_greater_than_greatest(self):
        for least, greatest in [
            ((1, 2), (1, 3)), ((1, 1), (0, 1)), ((0, 1), (-1, 1)), ((-1, 3), (-1, 2)), ((1, 1), (-1, 1)),
            ((1, SIXTY), (0, 1)), ((SIXTY, SIXTY + 1), (SIXTY - 1, SIXTY)), ((3, 2), (1, 1)),
            ((1, FOUR_HUNDRED - 1), (1, FOUR_HUNDRED)),
        ]:
            self.refused(("a", "b", "c", least, greatest))

    def test_what_is_refused_changes_nothing(self):
        tie = tie_of(("a", "b", "c", (0, 1), (1, 1)))
        spoiled = ("a", "b", "c", [0, 1], (1, 1))
        self.refused(spoiled)
        self.assertEqual(spoiled, ("a", "b", "c", [0, 1], (1, 1)))
        self.assertEqual(tie.plain(), ("a", "b", "c", (0, 1), (1, 1)))


FAR = [(-SIXTY, 1), (-5, 1), (0, 1), (1, SIXTY), (5, 1), (SIXTY, 1), (FOUR_HUNDRED, 1), (-FOUR_HUNDRED, 1)]


class Holding(unittest.TestCase):
    def check(self, least, greatest, good, bad):
        tie = tie_of(("a", "b", "c", least, greatest))
        for size in good:
            self.assertIs(tie.holds(size), True)
        for size in bad:
            self.assertIs(tie.holds(size), False)

    def test_free(self):
        self.check(None, None, FAR, [])

    def test_at_least(self):
        self.check((1, 2), None,
                   [(1, 2), (501, 1000), (2, 3), (5, 1), (SIXTY, 1), (SIXTY, SIXTY + 1), (FOUR_HUNDRED, 1)],
                   [(499, 1000), (1, 3), (0, 1), (-1, 2), (-SIXTY, 1), (-FOUR_HUNDRED, 1)])
        self.check((-1, 2), None, [(-1, 2), (-1, 3), (0, 1), (1, 2)], [(-2, 3), (-501, 1000), (-9, 1)])
        self.check((0, 1), None, [(0, 1), (1, SIXTY)], [(-1, SIXTY)])

    def test_at_most(self):
        self.check(None, (1, 2),
                   [(1, 2), (499, 1000), (1, 3), (0, 1), (-1, 2), (-SIXTY, 1), (-FOUR_HUNDRED, 1)],
                   [(501, 1000), (2, 3), (5, 1), (SIXTY, 1), (FOUR_HUNDRED, 1)])
        self.check(None, (-1, 2), [(-1, 2), (-2, 3), (-9, 1)], [(-1, 3), (-499, 1000), (0, 1), (1, 2)])
        self.check(None, (0, 1), [(0, 1), (-1, SIXTY)], [(1, SIXTY)])

    def test_just(self):
        self.check((1, 2), (1, 2), [(1, 2)],
                   [(499, 1000), (501, 1000), (-1, 2), (0, 1), (1, 1), (SIXTY, 1), (-SIXTY, 1)])
        self.check((0, 1), (0, 1), [(0, 1)], [(1, FOUR_HUNDRED), (-1, FOUR_HUNDRED)])

    def test_between(self):
        self.check((-1, 2), (2, 3),
                   [(-1, 2), (-499, 1000), (0, 1), (1, 2), (665, 1000 - 1), (2, 3)],
                   [(-501, 1000), (-2, 3), (-SIXTY, 1), (667, 1000), (1, 1), (SIXTY, 1), (-FOUR_HUNDRED, 1)])
        self.check((SIXTY - 1, SIXTY), (SIXTY, SIXTY + 1),
                   [(SIXTY - 1, SIXTY), (SIXTY, SIXTY + 1), (2 * SIXTY - 1, 2 * SIXTY + 1)],
                   [(SIXTY - 2, SIXTY - 1), (SIXTY + 1, SIXTY + 2), (1, 1)])

    def test_the_same_each_time(self):
        tie = tie_of(("a", "b", "c", (0, 1), (1, 1)))
        told = [tie.holds(size) for size in [(2, 1), (1, 2), (2, 1), (1, 2)]]
        self.assertEqual(told, [False, True, False, True])


class Steps(unittest.TestCase):
    def check(self, least, greatest, steps):
        told = tie_of(("a", "b", "c", least, greatest)).steps()
        self.assertIs(type(told), list)
        self.assertEqual(told, steps)
        for step in told:
            self.assertIs(type(step), tuple)
            self.assertIs(type(step[2]), tuple)
            self.assertIs(type(step[3]), bool)

    def test_free(self):
        self.check(None, None, [])

    def test_at_least(self):
        self.check((1, 2), None, [("c", "b", (-1, 2), False)])
        self.check((-1, 2), None, [("c", "b", (1, 2), False)])
        self.check((0, 1), None, [("c", "b", (0, 1), False)])

    def test_at_most(self):
        self.check(None, (1, 2), [("b", "c", (1, 2), True)])
        self.check(None, (-1, 2), [("b", "c", (-1, 2), True)])
        self.check(None, (0, 1), [("b", "c", (0, 1), True)])

    def test_just(self):
        self.check((2, 3), (2, 3), [("b", "c", (2, 3), True), ("c", "b", (-2, 3), False)])
        self.check((0, 1), (0, 1), [("b", "c", (0, 1), True), ("c", "b", (0, 1), False)])

    def test_between(self):
        self.check((1, 3), (1, 2), [("b", "c", (1, 2), True), ("c", "b", (-1, 3), False)])
        self.check((-3, 1), (-2, 1), [("b", "c", (-2, 1), True), ("c", "b", (3, 1), False)])
        self.check((-SIXTY, 1), (1, FOUR_HUNDRED),
                   [("b", "c", (1, FOUR_HUNDRED), True), ("c", "b", (SIXTY, 1), False)])

    def test_faces_are_not_sorted(self):
        told = tie_of(("t", "z", "a", (1, 1), (2, 1))).steps()
        self.assertEqual(told, [("z", "a", (2, 1), True), ("a", "z", (-1, 1), False)])

    def test_the_list_is_the_askers_own(self):
        for kind, row in GOOD:
            tie = tie_of(row)
            first = tie.steps()
            kept = list(first)
            first.append("more")
            first.reverse()
            second = tie.steps()
            self.assertIsNot(first, second)
            self.assertEqual(second, kept)
            second.clear()
            self.assertEqual(first[1:], list(reversed(kept)))
            self.assertEqual(tie.steps(), kept)
            self.assertEqual(tie.plain(), row)
            self.assertIs(type(tie), kind)


class Apart(unittest.TestCase):
    def test_two_ties_have_nothing_in_common(self):
        one = tie_of(("a", "b", "c", (0, 1), (1, 1)))
        other = tie_of(("d", "e", "f", (2, 1), None))
        again = tie_of(("a", "b", "c", (0, 1), (1, 1)))
        self.assertIsNot(one, again)
        one.steps().clear()
        self.assertEqual(one.plain(), ("a", "b", "c", (0, 1), (1, 1)))
        self.assertEqual(other.plain(), ("d", "e", "f", (2, 1), None))
        self.assertEqual(again.steps(), [("b", "c", (1, 1), True), ("c", "b", (0, 1), False)])

    def test_asking_in_any_order_tells_the_same(self):
        for kind, row in GOOD:
            tie = tie_of(row)
            ahead = (tie.plain(), tie.steps(), [tie.holds(size) for size in FAR])
            behind = ([tie.holds(size) for size in FAR], tie.steps(), tie.plain())
            self.assertEqual(ahead, tuple(reversed(behind)))


if __name__ == "__main__":
    unittest.main()
