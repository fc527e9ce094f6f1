"""Promises 7 to 10: chains, their ends and sums, placings; promise 2 for them."""

import copy
import unittest
from fractions import Fraction

from slackchain.chains import chain_ends, chain_sum, is_placing
from tests.samples import FOUR_HUNDRED, SIXTY, name_of, pair, possible_ties, some_ties, step_table

# a to b to c to d, and back from d to a; from b to e at least, to f at most; g is free.
TIES = [
    ("ab", "a", "b", (1, 2), (3, 2)),
    ("bc", "b", "c", (-2, 1), (-1, 3)),
    ("cd", "c", "d", (0, 1), (5, 1)),
    ("da", "d", "a", (-7, 1), (-7, 1)),
    ("be", "b", "e", (4, 1), None),
    ("bf", "b", "f", None, (-3, 4)),
    ("bg", "b", "g", None, None),
]


class Ends(unittest.TestCase):
    def check(self, chain, ends):
        told = chain_ends(TIES, chain)
        self.assertEqual(told, ends)
        if ends is not None:
            self.assertIs(type(told), tuple)

    def test_one_step(self):
        self.check([("ab", True)], ("a", "b"))
        self.check([("ab", False)], ("b", "a"))
        self.check([("be", False)], ("e", "b"))
        self.check([("bf", True)], ("b", "f"))
        self.check([("da", True)], ("d", "a"))
        self.check([("da", False)], ("a", "d"))

    def test_many_steps(self):
        self.check([("ab", True), ("bc", True)], ("a", "c"))
        self.check([("ab", True), ("bc", True), ("cd", True)], ("a", "d"))
        self.check([("cd", False), ("bc", False), ("ab", False)], ("d", "a"))
        self.check([("da", False), ("cd", False), ("bc", False), ("bf", True)], ("a", "f"))
        self.check([("be", False), ("ab", False), ("da", False)], ("e", "d"))

    def test_back_to_the_first_face(self):
        self.check([("ab", True), ("bc", True), ("cd", True), ("da", True)], ("a", "a"))
        self.check([("cd", True), ("da", True), ("ab", True), ("bc", True)], ("c", "c"))
        self.check([("ab", False), ("da", False), ("cd", False), ("bc", False)], ("b", "b"))

    def test_over_the_same_tie_again(self):
        self.check([("ab", True), ("ab", False)], ("a", "a"))
        self.check([("ab", False), ("ab", True), ("ab", False)], ("b", "a"))
        self.check([("ab", True), ("bc", True), ("bc", False), ("bf", True)], ("a", "f"))
        around = [("ab", True), ("bc", True), ("cd", True), ("da", True)]
        self.check(around + around + [("ab", True)], ("a", "b"))
        self.check(around * 250, ("a", "a"))

    def test_a_name_that_no_tie_has(self):
        for name in ["x", "a", "b", "abc", "", "AB", "ab ", "-ab"]:
            for forward in (True, False):
                self.check([(name, forward)], None)
                self.check([("ab", True), (name, forward)], None)
                self.check([(name, forward), ("ab", True)], None)
                self.check([("ab", True), (name, forward), ("bc", True)], None)
        self.assertIsNone(chain_ends([], [("ab", True)]))

    def test_a_step_that_the_tie_lacks(self):
        self.check([("be", True)], None)
        self.check([("bf", False)], None)
        self.check([("bg", True)], None)
        self.check([("bg", False)], None)
        self.check([("ab", True), ("be", True)], None)
        self.check([("bf", False), ("bc", True)], None)
        self.check([("ab", True), ("bg", True), ("bg", False), ("bc", True)], None)

    def test_a_step_that_begins_elsewhere(self):
        self.check([("ab", True), ("cd", True)], None)
        self.check([("ab", True), ("ab", True)], None)
        self.check([("ab", False), ("bc", True)], None)
        self.check([("ab", True), ("bc", False)], None)
        self.check([("ab", True), ("bc", True), ("ab", True)], None)
        self.check([("ab", True), ("cd", True), ("da", True)], None)
        self.check([("bc", True), ("ab", True)], None)
        # The pieces of it join end to end, but not in this order.
        self.check([("cd", True), ("ab", True), ("bc", True)], None)

    def test_each_pair_of_steps(self):
        table = step_table(TIES)
        for one in table:
            for other in table:
                ends = (table[one][0], table[other][1]) if table[one][1] == table[other][0] else None
                self.check([one, other], ends)

    def test_ties_that_are_impossible_have_chains_too(self):
        ties = [("x", "a", "b", (2, 1), None), ("y", "a", "b", None, (1, 1))]
        self.assertEqual(chain_ends(ties, [("y", True), ("x", False)]), ("a", "a"))
        self.assertEqual(chain_sum(ties, [("y", True), ("x", False)]), (-1, 1))

    def test_the_order_of_ties_does_not_matter(self):
        backward = list(reversed(TIES))
        chain = [("ab", True), ("bc", True), ("cd", True)]
        self.assertEqual(chain_ends(backward, chain), ("a", "d"))
        self.assertEqual(chain_sum(backward, chain), (37, 6))

    def test_a_tie_may_be_called_like_a_face(self):
        ties = [("a", "a", "b", None, (1, 1)), ("b", "b", "a", None, (2, 1))]
        self.assertEqual(chain_ends(ties, [("b", True), ("a", True)]), ("b", "b"))


class Sums(unittest.TestCase):
    def check(self, chain, top, bottom=1):
        told = chain_sum(TIES, chain)
        self.assertIs(type(told), tuple)
        self.assertEqual(told, (top, bottom))

    def test_no_step(self):
        self.check([], 0)
        self.assertEqual(chain_sum([], []), (0, 1))

    def test_one_step(self):
        self.check([("ab", True)], 3, 2)
        self.check([("ab", False)], -1, 2)
        self.check([("bc", True)], -1, 3)
        self.check([("bc", False)], 2)
        self.check([("cd", False)], 0)
        self.check([("be", False)], -4)
        self.check([("bf", True)], -3, 4)
        self.check([("da", True)], -7)
        self.check([("da", False)], 7)

    def test_many_steps(self):
        self.check([("ab", True), ("bc", True)], 7, 6)
        self.check([("ab", True), ("bc", True), ("cd", True)], 37, 6)
        self.check([("ab", True), ("bc", True), ("cd", True), ("da", True)], -5, 6)
        self.check([("be", False), ("ab", False), ("da", False)], 5, 2)
        self.check([("be", False), ("bf", True)], -19, 4)
        self.check([("da", False), ("da", True)], 0)

    def test_the_same_step_counts_each_time(self):
        self.check([("ab", True), ("ab", False)], 1)
        self.check([("ab", True), ("ab", False), ("ab", True)], 5, 2)
        self.check([("ab", True), ("bc", True), ("cd", True), ("da", True)] * 12, -10)
        self.check([("ab", True), ("ab", False)] * 500, 500)

    def test_great_numbers(self):
        ties = [
            ("x", "a", "b", (-SIXTY, 1), (SIXTY, SIXTY - 1)),
            ("y", "b", "c", (1, FOUR_HUNDRED), (FOUR_HUNDRED, 1)),
            ("z", "c", "a", None, (-1, FOUR_HUNDRED - 2)),
        ]
        table = step_table(ties)
        for chain in [
            [("x", True)], [("x", False)], [("y", False)], [("x", True), ("y", True)],
            [("x", True), ("y", True), ("z", True)], [("y", False), ("x", False)],
            [("y", False), ("y", True), ("z", True), ("x", True), ("x", False), ("x", True)],
        ]:
            self.assertEqual(chain_sum(ties, chain), pair(sum(table[mark][2] for mark in chain)))

    def test_sixty_ties_of_sixty_figures(self):
        ties = []
        for one in range(60):
            bounds = (pair(Fraction(-SIXTY, SIXTY - 1 - 2 * one)), pair(Fraction(one + 1, SIXTY - one - 1)))
            ties.append((name_of(one), name_of(one), name_of(one + 1)) + bounds)
        there = [(name_of(one), True) for one in range(60)]
        back = [(name_of(one), False) for one in reversed(range(60))]
        table = step_table(ties)
        for chain in [there, back, there + back]:
            self.assertEqual(chain_sum(ties, chain), pair(sum(table[mark][2] for mark in chain)))
        self.assertEqual(chain_ends(ties, there), (name_of(0), name_of(60)))
        self.assertEqual(chain_ends(ties, back), (name_of(60), name_of(0)))

    def test_each_step_by_itself_is_a_chain(self):
        for seed in range(10):
            ties = possible_ties(seed, 5, 7)
            table = step_table(ties)
            for mark in table:
                source, target, cost = table[mark]
                self.assertEqual(chain_ends(ties, [mark]), (source, target))
                self.assertEqual(chain_sum(ties, [mark]), pair(cost))


class Unchanged(unittest.TestCase):
    def test_ties_and_chain_stay_as_they_were(self):
        ties = copy.deepcopy(TIES)
        for chain in [[("ab", True), ("bc", True), ("cd", True)], [("cd", False)], [("ab", True), ("ab", False)]]:
            kept = copy.deepcopy(chain)
            first = (chain_ends(ties, chain), chain_sum(ties, chain))
            self.assertEqual((chain_ends(ties, chain), chain_sum(ties, chain)), first)
            self.assertEqual((ties, chain), (TIES, kept))
        for chain in [[("x", True)], [("ab", True), ("ab", True)]]:
            kept = copy.deepcopy(chain)
            chain_ends(ties, chain)
            self.assertEqual((ties, chain), (TIES, kept))

    def test_placings_stay_as_they_were(self):
        ties = copy.deepcopy(TIES)
        placing = [(face, (0, 1)) for face in "abcdefg"]
        kept = copy.deepcopy(placing)
        self.assertIs(is_placing(ties, placing), False)
        self.assertIs(is_placing(ties, placing), False)
        self.assertEqual((ties, placing), (TIES, kept))

    def test_nothing_is_kept_of_lists_handed_in(self):
        ties = [("t", "a", "b", None, (1, 1))]
        chain = [("t", True)]
        self.assertEqual(chain_sum(ties, chain), (1, 1))
        ties[0] = ("t", "b", "c", (2, 1), (2, 1))
        chain[0] = ("t", False)
        self.assertEqual(chain_sum(ties, chain), (-2, 1))
        self.assertEqual(chain_ends(ties, chain), ("c", "b"))
        self.assertIs(is_placing(ties, [("b", (0, 1)), ("c", (2, 1))]), True)


class Placings(unittest.TestCase):
    def check(self, ties, places, good):
        told = is_placing(ties, sorted(places.items()))
        self.assertIs(told, good)

    def test_ordinary(self):
        ties = [("t", "a", "b", (1, 1), (2, 1)), ("u", "b", "c", (-1, 2), None), ("v", "a", "c", None, (2, 1))]
        self.check(ties, {"a": (0, 1), "b": (3, 2), "c": (3, 2)}, True)
        self.check(ties, {"a": (-9, 1), "b": (-15, 2), "c": (-15, 2)}, True)
        self.check(ties, {"a": (0, 1), "b": (3, 2), "c": (5, 2)}, False)
        self.check(ties, {"a": (0, 1), "b": (5, 2), "c": (2, 1)}, False)
        self.check(ties, {"a": (0, 1), "b": (2, 1), "c": (1, 1)}, False)
        self.check(ties, {"a": (0, 1), "b": (0, 1), "c": (0, 1)}, False)

    def test_at_the_bounds_and_just_beyond(self):
        near = (1, SIXTY)
        far = pair(1 - Fraction(1, SIXTY))
        beyond = pair(2 + Fraction(1, FOUR_HUNDRED))
        ties = [("t", "a", "b", (1, 1), (2, 1))]
        for start in [(0, 1), (5, 3), (-SIXTY, 1)]:
            for size, good in [((1, 1), True), ((2, 1), True), ((3, 2), True), (far, False), (beyond, False),
                               ((-1, 1), False), ((-2, 1), False)]:
                end = pair(Fraction(*start) + Fraction(*size))
                self.check(ties, {"a": start, "b": end}, good)
        self.check([("t", "a", "b", None, (0, 1))], {"a": (0, 1), "b": near}, False)
        self.check([("t", "a", "b", None, near)], {"a": (0, 1), "b": near}, True)
        self.check([("t", "a", "b", near, near)], {"a": (0, 1), "b": near}, True)
        self.check([("t", "a", "b", near, None)], {"a": (0, 1), "b": (0, 1)}, False)

    def test_the_place_of_the_end_less_the_place_of_the_start(self):
        self.check([("t", "b", "a", (1, 1), (1, 1))], {"a": (1, 1), "b": (0, 1)}, True)
        self.check([("t", "b", "a", (1, 1), (1, 1))], {"a": (0, 1), "b": (1, 1)}, False)

    def test_one_tie_of_many_that_does_not_hold(self):
        ties = [(name_of(one), name_of(one), name_of(one + 1), (1, 2), (3, 2)) for one in range(20)]
        places = {name_of(one): (one, 1) for one in range(21)}
        self.check(ties, places, True)
        for spoiled in range(20):
            for bounds in [((3, 2), (2, 1)), ((-1, 1), (1, 2)), ((3, 2), None), (None, (1, 2))]:
                others = list(ties)
                others[spoiled] = ties[spoiled][:3] + bounds
                self.check(others, places, False)

    def test_free_ties_name_faces_too(self):
        ties = [("t", "a", "b", None, None)]
        self.check(ties, {"a": (0, 1), "b": (SIXTY, 1)}, True)
        self.check(ties, {"a": (0, 1)}, False)
        self.check(ties, {}, False)

    def test_no_ties(self):
        self.assertIs(is_placing([], []), True)
        self.assertIs(is_placing([], [("a", (0, 1))]), False)

    def test_faces_that_lack_or_are_none(self):
        ties = [("t", "a", "b", None, (9, 1)), ("u", "b", "c", None, (9, 1))]
        zero = (0, 1)
        self.assertIs(is_placing(ties, [("a", zero), ("b", zero), ("c", zero)]), True)
        for faces in ["", "a", "ab", "bc", "ac", "abd", "abcd", "xabc", "abcc", "aabc", "abbc", "aab", "xyz"]:
            self.assertIs(is_placing(ties, [(face, zero) for face in faces]), False)

    def test_faces_that_are_not_sorted(self):
        ties = [("t", "c", "b", None, (9, 1)), ("u", "b", "a", None, (9, 1))]
        for faces in ["abc", "acb", "bac", "bca", "cab", "cba"]:
            self.assertIs(is_placing(ties, [(face, (0, 1)) for face in faces]), faces == "abc")

    def test_sorted_as_texts_are(self):
        ties = [("t", "b", "ab", None, (9, 1)), ("u", "a", "aab", None, (9, 1))]
        self.assertIs(is_placing(ties, [(face, (0, 1)) for face in ["a", "aab", "ab", "b"]]), True)
        self.assertIs(is_placing(ties, [(face, (0, 1)) for face in ["a", "b", "ab", "aab"]]), False)

    def test_impossible_ties_have_no_placing(self):
        ties = [("x", "a", "b", (2, 1), None), ("y", "a", "b", None, (1, 1))]
        for size in range(-4, 5):
            self.check(ties, {"a": (0, 1), "b": (size, 1)}, False)

    def test_against_a_plain_reckoning(self):
        for seed in range(60):
            ties = some_ties(seed, 3, 2)
            faces = sorted({face for tie in ties for face in tie[1:3]})
            for one in range(-3, 4):
                for other in range(-3, 4):
                    places = dict(zip(faces, [(0, 1), (one, 1), (other, 1)]))
                    good = all(
                        (least is None or places[end][0] - places[start][0] >= Fraction(*least))
                        and (greatest is None or places[end][0] - places[start][0] <= Fraction(*greatest))
                        for name, start, end, least, greatest in ties)
                    self.check(ties, places, good)


if __name__ == "__main__":
    unittest.main()
