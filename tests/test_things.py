"""Promises 15 to 17: parts, gaps and things, ways, middles and rooms; promise 2 for them."""

import copy
import random
import unittest
from fractions import Fraction

from slackchain.errors import Apart, InRing, NoGap, NoName, NoPart, Twice
from slackchain.things import Thing
from tests.samples import FOUR_HUNDRED, NO_FRACTIONS, NO_NAMES, SIXTY, name_of, other_kinds, pair

PART = ("p", "a", "b", (5, 2), (1, 4), 3)
GAP = ("g", "a", "b", (2, 1), (3, 1))

# a - b - c - d in a line, e and f hanging on b, g on f; and by itself x - y.
PARTS = [
    ("ab", "a", "b", (5, 2), (1, 4), 1),
    ("cb", "c", "b", (1, 3), (0, 1), 2),
    ("cd", "c", "d", (-4, 1), (1, 1), 1),
    ("be", "b", "e", (7, 1), (1, 2), 1000000),
    ("fb", "f", "b", (3, 4), (2, 1), 5),
    ("gf", "g", "f", (0, 1), (1, 9), 1),
    ("xy", "x", "y", (10, 1), (1, 1), 1),
]
GAPS = [
    ("one", "a", "b", (2, 1), (3, 1)),
    ("back", "b", "a", (-3, 1), (-9, 4)),
    ("line", "a", "d", (-5, 1), (0, 1)),
    ("enil", "d", "a", (0, 1), (5, 1)),
    ("fork", "e", "g", (-8, 1), (-7, 1)),
    ("ab", "g", "d", (-9, 1), (9, 1)),
    ("far", "y", "x", (-10, 1), (-10, 1)),
]
WAYS = {
    "one": [("ab", True)],
    "back": [("ab", False)],
    "line": [("ab", True), ("cb", False), ("cd", True)],
    "enil": [("cd", False), ("cb", True), ("ab", False)],
    "fork": [("be", False), ("fb", False), ("gf", False)],
    "ab": [("gf", True), ("fb", True), ("cb", False), ("cd", True)],
    "far": [("xy", False)],
}
MIDDLES = {
    "one": (5, 2), "back": (-5, 2), "line": (-11, 6), "enil": (11, 6), "fork": (-31, 4), "ab": (-43, 12),
    "far": (-10, 1),
}
ROOMS = {
    "one": (1, 2), "back": (1, 4), "line": (11, 6), "enil": (11, 6), "fork": (1, 4), "ab": (65, 12), "far": (0, 1),
}


def spoiled(row, place, spoil):
    return row[:place] + (spoil,) + row[place + 1:]


class Refused(unittest.TestCase):
    def refused(self, error, parts, gaps):
        with self.assertRaises(error) as caught:
            Thing(parts, gaps)
        self.assertIs(type(caught.exception), error)


class NoParts(Refused):
    def check(self, thing):
        self.refused(NoPart, [thing], [])
        self.refused(NoPart, [("q", "c", "d", (1, 1), (0, 1), 1), thing], [])

    def test_other_kinds(self):
        for thing in other_kinds() + ["", "abcdef", "part p a b 1 0 1", {"a": 1}, list(PART)]:
            self.check(thing)

    def test_other_lengths(self):
        for size in range(6):
            self.check(PART[:size])
        self.check(PART + (1,))
        self.check(PART + PART)
        self.check((PART,))

    def test_spoiled_names_and_faces(self):
        for place in range(3):
            for spoil in NO_NAMES + other_kinds() + [("a",), ("a", "b")]:
                self.check(spoiled(PART, place, spoil))

    def test_faces_alike(self):
        self.check(("p", "a", "a", (5, 2), (1, 4), 3))
        self.check(("p", "b", "b", (5, 2), (1, 4), 3))

    def test_spoiled_fractions(self):
        for place in (3, 4):
            for spoil in NO_FRACTIONS + other_kinds() + ["", "a", "1"]:
                self.check(spoiled(PART, place, spoil))

    def test_a_most_below_nought(self):
        for most in [(-1, 1), (-1, 2), (-SIXTY, 1), (-1, SIXTY), (-1, FOUR_HUNDRED)]:
            self.check(spoiled(PART, 4, most))

    def test_spoiled_weights(self):
        for spoil in [0, -1, -SIXTY, True, False, None, 1.0, 1.5, "1", "", (1, 1), [1], (), 1j, b"1", float("inf")]:
            self.check(spoiled(PART, 5, spoil))
        for spoil in other_kinds():
            if type(spoil) is not int or spoil < 1:
                self.check(spoiled(PART, 5, spoil))

    def test_all_spoiled(self):
        for spoil in other_kinds():
            self.check((spoil,) * 6)

    def test_good_ones(self):
        for part in [
            PART, ("p", "a", "b", (0, 1), (0, 1), 1), ("p", "b", "a", (-1, 2), (1, SIXTY), 1000000),
            ("a", "a", "b", (SIXTY, SIXTY - 1), (SIXTY, 1), 7), ("b", "a", "b", (-SIXTY, 1), (5, 1), 2),
            ("abcdefgh", "zzzzzzzz", "zzzzzzzy", (1, FOUR_HUNDRED), (FOUR_HUNDRED, 1), 1),
        ]:
            told = Thing([part], []).parts()
            self.assertEqual(told, [part])
            self.assertIs(type(told), list)
            self.assertIs(type(told[0]), tuple)


class NoGaps(Refused):
    def check(self, thing):
        self.refused(NoGap, [PART], [thing])
        self.refused(NoGap, [PART], [("h", "b", "a", (0, 1), (0, 1)), thing])
        self.refused(NoGap, [], [thing])

    def test_other_kinds(self):
        for thing in other_kinds() + ["", "abcde", "need g a b 1 2", {"a": 1}, list(GAP)]:
            self.check(thing)

    def test_other_lengths(self):
        for size in range(5):
            self.check(GAP[:size])
        self.check(GAP + (1,))
        self.check(PART)
        self.check(GAP + GAP)
        self.check((GAP,))

    def test_spoiled_names_and_faces(self):
        for place in range(3):
            for spoil in NO_NAMES + other_kinds() + [("a",), ("a", "b")]:
                self.check(spoiled(GAP, place, spoil))

    def test_faces_alike(self):
        self.check(("g", "a", "a", (2, 1), (3, 1)))
        self.check(("g", "b", "b", (0, 1), (0, 1)))

    def test_spoiled_fractions(self):
        for spoil in NO_FRACTIONS + other_kinds() + ["", "a", "1", None]:
            for other in [(0, 1), (-1, 1), (1, 1)]:
                self.check(("g", "a", "b", spoil, other))
                self.check(("g", "a", "b", other, spoil))
            self.check(("g", "a", "b", spoil, spoil))
        self.check(("g", "a", "b", None, None))

    def test_low_greater_than_high(self):
        for low, high in [((1, 1), (0, 1)), ((1, 2), (1, 3)), ((-1, 3), (-1, 2)), ((1, SIXTY), (0, 1)),
                          ((1, FOUR_HUNDRED - 1), (1, FOUR_HUNDRED)), ((1, 1), (-1, 1))]:
            self.check(("g", "a", "b", low, high))

    def test_all_spoiled(self):
        for spoil in other_kinds():
            self.check((spoil,) * 5)

    def test_good_ones(self):
        for gap in [GAP, ("g", "b", "a", (0, 1), (0, 1)), ("p", "a", "b", (-SIXTY, 1), (1, SIXTY)),
                    ("abcdefgh", "a", "b", (1, FOUR_HUNDRED), (1, FOUR_HUNDRED - 1)),
                    ("a", "a", "b", (-2, 1), (-1, 1))]:
            told = Thing([PART], [gap]).gaps()
            self.assertEqual(told, [gap])
            self.assertIs(type(told), list)
            self.assertIs(type(told[0]), tuple)


class Order(Refused):
    def test_a_parts_name_twice(self):
        self.refused(Twice, [PART, ("p", "b", "c", (1, 1), (1, 1), 1)], [])
        self.refused(Twice, [PART, ("q", "b", "c", (1, 1), (1, 1), 1), ("p", "x", "y", (1, 1), (1, 1), 1)], [])
        self.refused(Twice, PARTS + [("xy", "m", "n", (1, 1), (1, 1), 1)], GAPS)

    def test_faces_joined_already(self):
        def part(name, start, end):
            return (name, start, end, (1, 1), (1, 1), 1)

        self.refused(InRing, [PART, part("q", "a", "b")], [])
        self.refused(InRing, [PART, part("q", "b", "a")], [])
        self.refused(InRing, [part("p", "a", "b"), part("q", "b", "c"), part("r", "c", "a")], [])
        self.refused(InRing, [part("p", "a", "b"), part("q", "c", "b"), part("r", "a", "c")], [])
        self.refused(InRing, [part("p", "b", "a"), part("q", "b", "c"), part("r", "c", "d"), part("s", "d", "a")], [])
        self.refused(InRing, [part("p", "a", "b"), part("q", "c", "d"), part("r", "b", "c"), part("s", "a", "d")], [])
        for first in "abcdefg":
            for second in "abcdefg":
                if first != second:
                    self.refused(InRing, PARTS + [part("new", first, second)], [])
        for start, end in [("a", "x"), ("y", "g"), ("x", "z"), ("z", "a"), ("u", "v")]:
            self.assertEqual(len(Thing(PARTS + [part("new", start, end)], []).parts()), 8)

    def test_a_long_ring(self):
        parts = [(name_of(one), name_of(one), name_of(one + 1), (1, 1), (1, 1), 1) for one in range(59)]
        for order in (parts, list(reversed(parts)), parts[1::2] + parts[::2]):
            self.assertEqual(Thing(order, []).parts(), order)
            self.refused(InRing, order + [("zzz", name_of(59), name_of(0), (1, 1), (1, 1), 1)], [])
            self.refused(InRing, order + [("zzz", name_of(17), name_of(42), (1, 1), (1, 1), 1)], [])

    def test_for_each_part_in_this_order(self):
        # No part, of a name that is there, its faces joined; a name twice, its faces joined.
        self.refused(NoPart, [PART, ("p", "a", "b", (1, 1), (-1, 1), 1)], [])
        self.refused(NoPart, [PART, ("p", "a", "b", (1, 1), (1, 1), 0)], [])
        self.refused(Twice, [PART, ("p", "a", "b", (1, 1), (1, 1), 1)], [])
        self.refused(Twice, [PART, PART], [])

    def test_the_first_part_of_the_list_first(self):
        spoil = ("s", "c", "c", (1, 1), (1, 1), 1)
        twice = ("p", "c", "d", (1, 1), (1, 1), 1)
        inring = ("r", "b", "a", (1, 1), (1, 1), 1)
        for first, error in [(spoil, NoPart), (twice, Twice), (inring, InRing)]:
            for second in (spoil, twice, inring):
                for third in (spoil, twice, inring):
                    self.refused(error, [PART, first, second, third], [])
                    self.refused(error, [PART, first, second, third], [None])

    def test_parts_ahead_of_gaps(self):
        for gaps in [["no gap"], [GAP, GAP], [("h", "a", "z", (0, 1), (0, 1))]]:
            self.refused(NoPart, [PART, "no part"], gaps)
            self.refused(Twice, [PART, ("p", "c", "d", (1, 1), (1, 1), 1)], gaps)
            self.refused(InRing, [PART, ("q", "a", "b", (1, 1), (1, 1), 1)], gaps)

    def test_a_gaps_name_twice(self):
        self.refused(Twice, [PART], [GAP, GAP])
        self.refused(Twice, [PART], [GAP, ("h", "a", "b", (0, 1), (0, 1)), ("g", "b", "a", (0, 1), (0, 1))])

    def test_faces_that_no_parts_join(self):
        for one, other in [("a", "x"), ("y", "d"), ("a", "z"), ("z", "a"), ("z", "zz"), ("xy", "ab")]:
            self.refused(Apart, PARTS, GAPS + [("new", one, other, (0, 1), (1, 1))])
            self.refused(Apart, PARTS, [("new", one, other, (0, 1), (1, 1))] + GAPS)
        self.refused(Apart, [], [GAP])
        joined = PARTS + [("dx", "d", "x", (1, 1), (0, 1), 1)]
        self.assertEqual(Thing(joined, [("new", "y", "a", (0, 1), (1, 1))]).way("new"),
                         [("xy", False), ("dx", False), ("cd", False), ("cb", True), ("ab", False)])

    def test_for_each_gap_in_this_order(self):
        self.refused(NoGap, [PART], [GAP, ("g", "a", "z", (1, 1), (0, 1))])
        self.refused(NoGap, [PART], [("g", "a", "z", (1, 1), (0, 1))])
        self.refused(Twice, [PART], [GAP, ("g", "a", "z", (0, 1), (1, 1))])

    def test_the_first_gap_of_the_list_first(self):
        spoil = ("s", "a", "a", (0, 1), (1, 1))
        twice = ("g", "b", "a", (0, 1), (1, 1))
        apart = ("r", "a", "z", (0, 1), (1, 1))
        for first, error in [(spoil, NoGap), (twice, Twice), (apart, Apart)]:
            for second in (spoil, twice, apart):
                for third in (spoil, twice, apart):
                    self.refused(error, [PART], [GAP, first, second, third])

    def test_a_part_and_a_gap_of_the_same_name(self):
        thing = Thing([PART], [("p", "b", "a", (0, 1), (1, 1))])
        self.assertEqual(thing.way("p"), [("p", False)])
        self.assertEqual(thing.parts(), [PART])

    def test_several_gaps_between_the_same_faces(self):
        thing = Thing([PART], [GAP, ("h", "a", "b", (0, 1), (5, 2)), ("i", "b", "a", (0, 1), (1, 1))])
        self.assertEqual([thing.room(name) for name in "ghi"], [(1, 2), (0, 1), (-5, 2)])


class Ways(unittest.TestCase):
    def check_unknown(self, thing, names):
        for name in names:
            for ask in (thing.way, thing.middle, thing.room):
                with self.assertRaises(NoName):
                    ask(name)

    def test_order_is_kept(self):
        thing = Thing(PARTS, GAPS)
        self.assertEqual((thing.parts(), thing.gaps()), (PARTS, GAPS))
        thing = Thing(list(reversed(PARTS)), list(reversed(GAPS)))
        self.assertEqual((thing.parts(), thing.gaps()), (list(reversed(PARTS)), list(reversed(GAPS))))

    def test_without_parts_or_gaps(self):
        thing = Thing([], [])
        self.assertEqual((thing.parts(), thing.gaps()), ([], []))
        self.check_unknown(thing, ["a", "g", "p"])
        thing = Thing(PARTS, [])
        self.assertEqual((thing.parts(), thing.gaps()), (PARTS, []))
        self.check_unknown(thing, ["ab", "one"])

    def test_ways_middles_and_rooms(self):
        for parts in (PARTS, list(reversed(PARTS)), PARTS[1::2] + PARTS[::2]):
            for gaps in (GAPS, list(reversed(GAPS))):
                thing = Thing(parts, gaps)
                for name in WAYS:
                    told = thing.way(name)
                    self.assertIs(type(told), list)
                    self.assertEqual(told, WAYS[name])
                    for step in told:
                        self.assertIs(type(step), tuple)
                        self.assertIs(type(step[1]), bool)
                    self.assertEqual(thing.middle(name), MIDDLES[name])
                    self.assertEqual(thing.room(name), ROOMS[name])

    def test_room_by_either_side(self):
        for low, high, room in [
            ((2, 1), (4, 1), (1, 2)), ((0, 1), (3, 1), (1, 2)), ((2, 1), (3, 1), (1, 2)), ((5, 2), (9, 1), (0, 1)),
            ((0, 1), (5, 2), (0, 1)), ((5, 2), (5, 2), (0, 1)), ((3, 1), (4, 1), (-1, 2)), ((0, 1), (2, 1), (-1, 2)),
            ((0, 1), (1, 3), (-13, 6)), ((9, 1), (9, 1), (-13, 2)), ((-9, 1), (-8, 1), (-21, 2)),
        ]:
            thing = Thing([PART], [("g", "a", "b", low, high), ("h", "b", "a", pair(-Fraction(*high)),
                                                               pair(-Fraction(*low)))])
            for name in "gh":
                self.assertEqual(thing.room(name), room)

    def test_a_name_that_no_gap_has(self):
        thing = Thing(PARTS, GAPS)
        self.check_unknown(thing, ["cb", "cd", "xy", "gf", "a", "b", "x", "", "One", "ones", "on"])
        self.assertEqual(thing.way("ab"), WAYS["ab"])
        self.check_unknown(Thing([PART], [GAP]), ["p"])

    def test_great_numbers(self):
        parts = [
            ("p", "a", "b", (SIXTY, SIXTY - 1), (0, 1), 1), ("q", "c", "b", (1, FOUR_HUNDRED), (0, 1), 1),
            ("r", "c", "d", (-FOUR_HUNDRED, 2), (0, 1), 1),
        ]
        thing = Thing(parts, [("g", "a", "d", (-FOUR_HUNDRED, 1), (SIXTY, 1))])
        middle = Fraction(SIXTY, SIXTY - 1) - Fraction(1, FOUR_HUNDRED) - Fraction(FOUR_HUNDRED, 2)
        self.assertEqual(thing.middle("g"), pair(middle))
        self.assertEqual(thing.room("g"), pair(min(SIXTY - middle, middle + FOUR_HUNDRED)))

    def test_trees_of_all_kinds(self):
        for seed in range(40):
            chance = random.Random(seed)
            count = 2 + seed % 14
            parts = []
            places = {0: (0, Fraction(0))}
            for face in range(1, count):
                size = Fraction(chance.randint(-9, 9), chance.randint(1, 5))
                joined = chance.randrange(face)
                if chance.randrange(6) == 0:
                    places[face] = (face, Fraction(0))
                    continue
                forward = chance.randrange(2) == 0
                ends = (joined, face) if forward else (face, joined)
                places[face] = (places[joined][0], places[joined][1] + (size if forward else -size))
                parts.append((name_of(face), name_of(ends[0]), name_of(ends[1]), pair(size), (1, 1), 1))
            chance.shuffle(parts)
            self.check_tree(parts, places)

    def check_tree(self, parts, places):
        rows = {part[0]: part for part in parts}
        for one in places:
            for other in places:
                gap = ("gap", name_of(one), name_of(other), (-1, 2), (3, 1))
                if one == other:
                    continue
                if places[one][0] != places[other][0]:
                    with self.assertRaises(Apart):
                        Thing(parts, [gap])
                    continue
                thing = Thing(parts, [gap])
                at = gap[1]
                for name, forward in thing.way("gap"):
                    start, end = rows[name][1:3] if forward else rows[name][2:0:-1]
                    self.assertEqual(start, at)
                    at = end
                self.assertEqual(at, gap[2])
                names = [name for name, forward in thing.way("gap")]
                self.assertEqual(len(set(names)), len(names))
                middle = places[other][1] - places[one][1]
                self.assertEqual(thing.middle("gap"), pair(middle))
                self.assertEqual(thing.room("gap"), pair(min(3 - middle, middle + Fraction(1, 2))))


class Own(unittest.TestCase):
    def told(self, thing):
        rows = [(thing.way(gap[0]), thing.middle(gap[0]), thing.room(gap[0])) for gap in thing.gaps()]
        return [thing.parts(), thing.gaps(), rows]

    def test_lists_handed_in_changed_later(self):
        parts = copy.deepcopy(PARTS)
        gaps = copy.deepcopy(GAPS)
        thing = Thing(parts, gaps)
        self.assertEqual((parts, gaps), (PARTS, GAPS))
        first = self.told(thing)
        self.assertEqual((parts, gaps), (PARTS, GAPS))
        parts[0] = ("ab", "m", "n", (1, 1), (1, 1), 1)
        parts.append("no part")
        gaps[0] = ("one", "x", "y", (0, 1), (0, 1))
        gaps.reverse()
        self.assertEqual(self.told(thing), first)
        parts.clear()
        gaps.clear()
        self.assertEqual(self.told(thing), first)

    def test_refused_lists_stay_as_they_were(self):
        for more_parts, more_gaps in [(["no part"], []), ([PARTS[0]], []), ([], ["no gap"]), ([], [GAPS[0]])]:
            parts = PARTS + more_parts
            gaps = GAPS + more_gaps
            with self.assertRaises((NoPart, NoGap, Twice)):
                Thing(parts, gaps)
            self.assertEqual((parts, gaps), (PARTS + more_parts, GAPS + more_gaps))

    def test_lists_told_are_the_askers_own(self):
        thing = Thing(PARTS, GAPS)
        first = self.told(thing)
        held = copy.deepcopy(first)
        for told in [thing.parts(), thing.gaps()] + [thing.way(gap[0]) for gap in GAPS]:
            told.reverse()
            told.append("more")
        self.assertEqual(self.told(thing), held)
        thing.way("line").clear()
        self.assertEqual((thing.middle("line"), thing.room("line")), (MIDDLES["line"], ROOMS["line"]))
        self.assertEqual(first, held)

    def test_two_things_have_nothing_in_common(self):
        one = Thing(PARTS, GAPS)
        other = Thing(PARTS, GAPS)
        third = Thing(one.parts(), one.gaps())
        fourth = Thing(PARTS[:1], GAPS[:1])
        first = self.told(other)
        self.told(one)[2][0][0].clear()
        one.parts().clear()
        self.assertEqual(self.told(other), first)
        self.assertEqual(self.told(third), first)
        self.assertEqual(self.told(fourth), [PARTS[:1], GAPS[:1], [([("ab", True)], (5, 2), (1, 2))]])

    def test_what_is_refused_changes_nothing(self):
        thing = Thing(PARTS, GAPS)
        first = self.told(thing)
        for ask in (thing.way, thing.middle, thing.room):
            with self.assertRaises(NoName):
                ask("xy")
            self.assertEqual(self.told(thing), first)


if __name__ == "__main__":
    unittest.main()
