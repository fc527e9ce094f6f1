"""Promise 9 once more: the least sums of chains from a face, and chains that have them; promise 2 for them."""

import copy
import unittest

from slackchain.chains import chain_ends, chain_sum
from slackchain.reach import reached
from tests.samples import (
    FOUR_HUNDRED, SIXTY, all_faces, least_sums, name_of, pair, possible_ties, some_ties, walked,
)


class Reached(unittest.TestCase):
    def check(self, ties):
        """Holds what is told from each face against a plain reckoning."""
        sums = least_sums(ties)
        self.assertIsNotNone(sums)
        for face in all_faces(ties):
            told = reached(ties, face)
            self.assertIs(type(told), list)
            self.assertEqual([one[0] for one in told], sorted(other for one, other in sums if one == face))
            self.assertIn((face, (0, 1), []), told)
            for row in told:
                self.assertIs(type(row), tuple)
                other, total, chain = row
                self.assertEqual(total, pair(sums[face, other]))
                self.assertIs(type(chain), list)
                faces, chain_total = walked(ties, face, chain)
                self.assertEqual(faces[-1], other)
                self.assertEqual(pair(chain_total), total)
                self.assertEqual(len(set(faces)), len(faces))
                if chain:
                    self.assertEqual(chain_ends(ties, chain), (face, other))
                self.assertEqual(chain_sum(ties, chain), total)

    def test_one_tie(self):
        ties = [("t", "a", "b", (1, 2), (2, 1))]
        self.assertEqual(reached(ties, "a"), [("a", (0, 1), []), ("b", (2, 1), [("t", True)])])
        self.assertEqual(reached(ties, "b"), [("a", (-1, 2), [("t", False)]), ("b", (0, 1), [])])

    def test_faces_to_which_no_chain_leads_are_not_told(self):
        ties = [("t", "a", "b", None, (2, 1)), ("u", "c", "d", None, None), ("v", "b", "e", (1, 1), None)]
        self.assertEqual(reached(ties, "a"), [("a", (0, 1), []), ("b", (2, 1), [("t", True)])])
        self.assertEqual(reached(ties, "b"), [("b", (0, 1), [])])
        self.assertEqual(reached(ties, "c"), [("c", (0, 1), [])])
        self.assertEqual(reached(ties, "d"), [("d", (0, 1), [])])
        self.assertEqual(reached(ties, "e"), [("b", (-1, 1), [("v", False)]), ("e", (0, 1), [])])

    def test_a_longer_chain_with_a_lesser_sum(self):
        ties = [("far", "a", "c", None, (5, 1)), ("one", "a", "b", None, (2, 1)), ("two", "b", "c", None, (-3, 1))]
        self.assertEqual(reached(ties, "a"), [
            ("a", (0, 1), []), ("b", (2, 1), [("one", True)]), ("c", (-1, 1), [("one", True), ("two", True)]),
        ])

    def test_steps_below_nought_and_ties_in_an_awkward_order(self):
        for count in (2, 5, 12):
            line = [(name_of(one), name_of(one), name_of(one + 1), None, (-1, 3)) for one in range(count)]
            for ties in (line, list(reversed(line))):
                told = reached(ties, name_of(0))
                self.assertEqual([one[1] for one in told], [pair_of_thirds(-one) for one in range(count + 1)])
                self.assertEqual(told[-1][2], [(name_of(one), True) for one in range(count)])
                self.check(ties)

    def test_sorted_by_the_other_face_whatever_the_chain(self):
        ties = [("t", "m", "z", None, (1, 1)), ("u", "z", "a", None, (1, 1)), ("v", "a", "zz", None, (1, 1)),
                ("w", "zz", "aa", None, (1, 1))]
        self.assertEqual([one[0] for one in reached(ties, "m")], ["a", "aa", "m", "z", "zz"])

    def test_rings_whose_sum_is_nought(self):
        ties = [("t", "a", "b", (1, 1), (1, 1)), ("u", "b", "c", (-3, 1), (-3, 1)), ("v", "c", "a", (2, 1), (2, 1)),
                ("w", "c", "d", (0, 1), (0, 1)), ("x", "d", "c", (0, 1), (0, 1))]
        self.check(ties)

    def test_ties_with_the_same_faces(self):
        ties = [("t", "a", "b", None, (3, 1)), ("u", "a", "b", None, (2, 1)), ("v", "b", "a", (-5, 2), None),
                ("w", "b", "a", None, (-1, 1))]
        self.check(ties)
        self.assertEqual(reached(ties, "a")[1], ("b", (2, 1), [("u", True)]))
        self.assertEqual(reached(ties, "b")[0], ("a", (-1, 1), [("w", True)]))

    def test_books_of_all_kinds(self):
        tried = 0
        for seed in range(150):
            ties = possible_ties(seed, 3 + seed % 6, 2 + seed % 11)
            self.check(ties)
            others = some_ties(seed, 3 + seed % 5, 2 + seed % 4)
            if least_sums(others) is not None:
                tried += 1
                self.check(others)
        self.assertGreater(tried, 30)

    def test_great_numbers(self):
        self.check([
            ("t", "a", "b", (-SIXTY, 1), (1, SIXTY)),
            ("u", "b", "c", (-1, SIXTY - 1), (SIXTY, SIXTY - 2)),
            ("v", "c", "a", None, (FOUR_HUNDRED, FOUR_HUNDRED - 1)),
            ("w", "a", "c", None, (1, FOUR_HUNDRED)),
        ])

    def test_sixty_ties_and_somewhat_more(self):
        self.check(possible_ties(7, 30, 60))
        self.check(possible_ties(8, 61, 60))
        self.check(possible_ties(9, 25, 70))


def pair_of_thirds(thirds):
    return (thirds // 3, 1) if thirds % 3 == 0 else (thirds, 3)


class Own(unittest.TestCase):
    def test_ties_stay_as_they_were_and_the_same_is_told_each_time(self):
        for seed in range(20):
            ties = possible_ties(seed, 5, 9)
            kept = copy.deepcopy(ties)
            face = ties[0][1]
            first = reached(ties, face)
            self.assertEqual(ties, kept)
            self.assertEqual(reached(copy.deepcopy(ties), face), first)
            self.assertEqual(reached(ties, face), first)

    def test_the_lists_are_the_askers_own(self):
        ties = [("t", "a", "b", (1, 1), (2, 1)), ("u", "b", "c", (1, 1), (2, 1)), ("v", "b", "d", (1, 1), (2, 1))]
        told = reached(ties, "a")
        kept = copy.deepcopy(told)
        for row in told:
            held = [list(one[2]) for one in told if one is not row]
            row[2].append("more")
            self.assertEqual([one[2] for one in told if one is not row], held)
        told.clear()
        self.assertEqual(reached(ties, "a"), kept)
        ties[0] = ("t", "a", "b", (1, 1), (1, 1))
        self.assertEqual(kept[1][1], (2, 1))
        self.assertEqual(reached(ties, "a")[1][1], (1, 1))


if __name__ == "__main__":
    unittest.main()
