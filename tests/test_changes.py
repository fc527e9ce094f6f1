"""Promises 21, 22, 3 and 2: a part measured, a gap changed, and the parts whose slack is another one."""

import copy
import random
import unittest
from fractions import Fraction

from slackchain.changes import changed, measured, unlike_parts
from slackchain.errors import NoGap, NoName, Off, Tight
from slackchain.shares import share
from slackchain.things import Thing
from tests.samples import FOUR_HUNDRED, SIXTY, name_of, pair, plain_middles, plain_ways, some_thing

PARTS = [
    ("ab", "a", "b", (5, 2), (1, 4), 1),
    ("cb", "c", "b", (1, 3), (0, 1), 2),
    ("cd", "c", "d", (-4, 1), (3, 2), 1000000),
    ("xy", "x", "y", (10, 1), (1, 1), 1),
]
GAPS = [
    ("one", "a", "b", (2, 1), (3, 1)),
    ("line", "d", "a", (-5, 1), (5, 1)),
    ("ab", "b", "d", (-9, 1), (0, 1)),
    ("far", "y", "x", (-11, 1), (-10, 1)),
]
MANY = [some_thing(seed, 2 + seed % 11, seed % 9) for seed in range(120)]


def all_of(thing):
    rows = [(thing.way(gap[0]), thing.middle(gap[0]), thing.room(gap[0])) for gap in thing.gaps()]
    return [thing.parts(), thing.gaps(), rows]


class Refused(unittest.TestCase):
    def refused(self, error, ask, thing, *rest):
        first = all_of(thing)
        with self.assertRaises(error) as caught:
            ask(thing, *rest)
        self.assertIs(type(caught.exception), error)
        self.assertEqual(all_of(thing), first)
        return caught.exception


class Measured(Refused):
    def check(self, parts, gaps, name, size):
        thing = Thing(parts, gaps)
        first = all_of(thing)
        told = measured(thing, name, size)
        self.assertIs(type(told), Thing)
        self.assertIsNot(told, thing)
        self.assertEqual(all_of(thing), first)
        due = [part[:3] + (size, (0, 1), part[5]) if part[0] == name else part for part in parts]
        self.assertEqual((told.parts(), told.gaps()), (due, gaps))
        self.assertEqual(all_of(told), all_of(Thing(due, gaps)))
        return told

    def test_a_new_thing(self):
        for part in PARTS:
            self.check(PARTS, GAPS, part[0], part[3])
        self.check(PARTS, [], "ab", (9, 4))
        self.check(PARTS[:1], [], "ab", (11, 4))

    def test_at_the_ends_and_beyond(self):
        parts = PARTS + [("big", "y", "n", (SIXTY, SIXTY - 1), (1, SIXTY), 1),
                         ("long", "n", "o", (1, FOUR_HUNDRED), (FOUR_HUNDRED, 7), 1)]
        for part in parts:
            size, most = Fraction(*part[3]), Fraction(*part[4])
            for value in (size - most, size + most, size, size - most / 2, size + most * Fraction(9, 10)):
                self.check(parts, GAPS, part[0], pair(value))
            for little in (Fraction(1, SIXTY), Fraction(1, FOUR_HUNDRED), Fraction(1), Fraction(10 ** 9)):
                for value in (size - most - little, size + most + little):
                    self.refused(Off, measured, Thing(parts, GAPS), part[0], pair(value))

    def test_a_most_of_nought(self):
        self.check(PARTS, GAPS, "cb", (1, 3))
        for size in [(1, 2), (1, 4), (-1, 3), (0, 1)]:
            self.refused(Off, measured, Thing(PARTS, GAPS), "cb", size)

    def test_measured_once_more(self):
        told = self.check(PARTS, GAPS, "ab", (9, 4))
        self.assertEqual(all_of(measured(told, "ab", (9, 4))), all_of(told))
        self.refused(Off, measured, told, "ab", (5, 2))
        both = measured(told, "cd", (-3, 1))
        self.assertEqual(both.parts(), [PARTS[0][:3] + ((9, 4), (0, 1), 1), PARTS[1],
                                        PARTS[2][:3] + ((-3, 1), (0, 1), 1000000), PARTS[3]])

    def test_a_name_that_no_part_has(self):
        for name in ["one", "line", "far", "a", "b", "x", "cbx", "c", "zz", "abcdefgh"]:
            self.refused(NoName, measured, Thing(PARTS, GAPS), name, (5, 2))
            self.refused(NoName, measured, Thing(PARTS, GAPS), name, (SIXTY, 1))
        self.refused(NoName, measured, Thing([], []), "ab", (5, 2))

    def test_just_the_gaps_with_the_part_on_their_way_are_moved(self):
        for seed, (parts, gaps) in enumerate(MANY):
            chance = random.Random(seed)
            before, ways = plain_middles(parts, gaps), plain_ways(parts, gaps)
            for part in parts:
                off = Fraction(*part[4]) * chance.choice((1, -1, Fraction(1, 2), Fraction(-1, 3), 0))
                told = self.check(parts, gaps, part[0], pair(Fraction(*part[3]) + off))
                for gap in gaps:
                    forward = dict(told.way(gap[0])).get(part[0])
                    self.assertEqual(forward is not None, part[0] in ways[gap[0]])
                    move = 0 if forward is None else off if forward else -off
                    self.assertEqual(told.middle(gap[0]), pair(before[gap[0]] + move))


class Changed(Refused):
    def check(self, parts, gaps, name, low, high):
        thing = Thing(parts, gaps)
        first = all_of(thing)
        told = changed(thing, name, low, high)
        self.assertIs(type(told), Thing)
        self.assertIsNot(told, thing)
        self.assertEqual(all_of(thing), first)
        due = [gap[:3] + (low, high) if gap[0] == name else gap for gap in gaps]
        self.assertEqual((told.parts(), told.gaps()), (parts, due))
        self.assertEqual(all_of(told), all_of(Thing(parts, due)))

    def test_a_new_thing(self):
        for name in ["one", "line", "ab", "far"]:
            for low, high in [((0, 1), (1, 1)), ((1, 1), (1, 1)), ((-1, 2), (-1, 3)), ((-SIXTY, 1), (SIXTY, 2)),
                              ((1, FOUR_HUNDRED), (FOUR_HUNDRED, 1)), ((0, 1), (0, 1)), ((900, 1), (901, 1))]:
                self.check(PARTS, GAPS, name, low, high)

    def test_many(self):
        for parts, gaps in MANY:
            for gap in gaps:
                self.check(parts, gaps, gap[0], (-7, 3), (5, 2))

    def test_a_low_greater_than_the_high(self):
        for name in ["one", "line", "ab", "far"]:
            for low, high in [((1, 1), (0, 1)), ((1, 2), (1, 3)), ((-1, 3), (-1, 2)), ((1, SIXTY), (0, 1)),
                              ((1, FOUR_HUNDRED - 1), (1, FOUR_HUNDRED)), ((3, 1), (2, 1))]:
                self.refused(NoGap, changed, Thing(PARTS, GAPS), name, low, high)

    def test_a_name_that_no_gap_has(self):
        for name in ["cb", "cd", "xy", "a", "b", "zz", "on", "ones", "abcdefgh"]:
            self.refused(NoName, changed, Thing(PARTS, GAPS), name, (0, 1), (1, 1))
            self.refused(NoName, changed, Thing(PARTS, GAPS), name, (1, 1), (0, 1))
        self.refused(NoName, changed, Thing(PARTS, []), "one", (1, 1), (0, 1))
        self.refused(NoName, changed, Thing([], []), "one", (0, 1), (1, 1))


class Unlike(Refused):
    def slacks(self, thing):
        return {name: slack for name, slack, stop in share(thing)}

    def check(self, thing, other):
        ones, others = self.slacks(thing), self.slacks(other)
        told = unlike_parts(thing, other)
        self.assertIs(type(told), list)
        self.assertEqual(told, [part[0] for part in thing.parts() if ones[part[0]] != others[part[0]]])
        return told

    def test_like_things(self):
        self.assertEqual(self.check(Thing([], []), Thing([], [])), [])
        for parts, gaps in MANY:
            thing = Thing(parts, gaps)
            self.assertEqual(self.check(thing, thing), [])
            self.assertEqual(self.check(thing, Thing(parts[::-1], gaps[::-1])), [])

    def test_by_hand(self):
        parts = [("p", "a", "b", (0, 1), (9, 1), 1), ("q", "b", "c", (0, 1), (9, 1), 1),
                 ("r", "c", "d", (0, 1), (2, 1), 1)]
        gaps = [("g", "a", "c", (-4, 1), (4, 1))]
        thing = Thing(parts, gaps)
        self.assertEqual(self.check(thing, changed(thing, "g", (-3, 1), (3, 1))), ["p", "q"])
        self.assertEqual(self.check(changed(thing, "g", (-3, 1), (3, 1)), thing), ["p", "q"])
        self.assertEqual(self.check(thing, measured(thing, "p", (0, 1))), ["p", "q"])
        self.assertEqual(self.check(thing, measured(thing, "r", (1, 1))), ["r"])
        self.assertEqual(self.check(thing, changed(thing, "g", (-9, 1), (4, 1))), [])
        other = Thing([parts[2], parts[1], parts[0]], [("g", "a", "c", (-3, 1), (3, 1))])
        self.assertEqual(self.check(thing, other), ["p", "q"])
        self.assertEqual(self.check(other, thing), ["q", "p"])
        # A like slack with another stop counts as like.
        full = changed(thing, "g", (-18, 1), (18, 1))
        self.assertEqual(self.check(full, changed(full, "g", (-20, 1), (20, 1))), [])
        most = Thing([parts[0][:4] + ((2, 1), 1)] + parts[1:], gaps)
        self.assertEqual(share(most)[0][1:], ((2, 1), ("most",)))
        self.assertEqual(share(thing)[0][1:], ((2, 1), ("gap", "g")))
        self.assertEqual(self.check(thing, most), [])

    def test_things_of_the_same_names(self):
        parts = [("p", "a", "b", (0, 1), (9, 1), 1), ("q", "b", "c", (0, 1), (9, 1), 1)]
        others = [("q", "x", "y", (7, 1), (9, 1), 3), ("p", "m", "x", (1, 2), (8, 1), 1)]
        self.assertEqual(self.check(Thing(parts, []), Thing(others, [])), ["p"])
        self.assertEqual(self.check(Thing(others, []), Thing(parts, [])), ["p"])

    def test_many(self):
        found = 0
        for seed, (parts, gaps) in enumerate(MANY):
            chance = random.Random(seed)
            thing = Thing(parts, gaps)
            for gap in gaps:
                moved = chance.sample(parts, len(parts))
                low, high = Fraction(*gap[3]) - chance.choice((0, 1)), Fraction(*gap[4]) + chance.choice((0, 1))
                other = changed(Thing(moved, gaps), gap[0], pair(low), pair(high))
                told = self.check(thing, other)
                self.assertEqual(sorted(told), sorted(self.check(other, thing)))
                found += len(told)
        self.assertGreater(found, 50)

    def test_too_tight(self):
        parts = [("p", "a", "b", (1, 1), (1, 1), 1)]
        fine = Thing(parts, [("f", "a", "b", (0, 1), (2, 1))])
        one = Thing(parts, [("f", "a", "b", (0, 1), (2, 1)), ("one", "a", "b", (2, 1), (2, 1))])
        other = Thing(parts, [("other", "a", "b", (0, 1), (0, 1))])
        for first, second, name in [(one, fine, "one"), (fine, one, "one"), (one, other, "one"),
                                    (other, one, "other"), (other, fine, "other"), (fine, other, "other")]:
            self.assertEqual(self.refused(Tight, unlike_parts, first, second).tight_gap, name)
        self.assertEqual(unlike_parts(fine, fine), [])


class Own(unittest.TestCase):
    def test_two_things_have_nothing_in_common(self):
        for parts, gaps in MANY[:60]:
            thing = Thing(parts, gaps)
            first = all_of(thing)
            made = [measured(thing, part[0], part[3]) for part in parts]
            made += [changed(thing, gap[0], (0, 1), (1, 1)) for gap in gaps]
            held = copy.deepcopy([all_of(one) for one in made])
            for one in [thing] + made:
                one.parts().clear()
                one.gaps().reverse()
                for gap in gaps:
                    one.way(gap[0]).clear()
            self.assertEqual([all_of(one) for one in made], held)
            self.assertEqual(all_of(thing), first)

    def test_lists_told_are_the_askers_own(self):
        parts = [(name_of(one), name_of(one), name_of(one + 1), (0, 1), (1, 1), 1) for one in range(5)]
        thing = Thing(parts, [])
        other = Thing([part[:4] + ((2, 1), 1) for part in parts], [])
        told = unlike_parts(thing, other)
        self.assertEqual(told, [part[0] for part in parts])
        told.clear()
        self.assertEqual(unlike_parts(thing, other), [part[0] for part in parts])


if __name__ == "__main__":
    unittest.main()
