"""Promises 18 to 20, 3 and 2: sharings, which of two is fairer, and the shares' ties."""

import copy
import itertools
import random
import unittest
from fractions import Fraction

from slackchain.books import Book
from slackchain.errors import Tight
from slackchain.shares import fairer, is_sharing, share, share_ties
from slackchain.things import Thing
from slackchain.ties import tie_of
from tests.samples import (
    FOUR_HUNDRED, SIXTY, due_stop, keeps_all, pair, plain_middles, plain_rooms, plain_ways, some_thing,
)

SMALL = [
    some_thing(seed, 2 + seed % 5, seed % 6, shares=(0, 1, 2, 3)) for seed in range(60)
]
MANY = [some_thing(seed, 2 + seed % 13, seed % 11) for seed in range(300)]
MANY += [some_thing(seed, 9, 9, weights=(1,)) for seed in range(60)]
MANY += [some_thing(seed, 12, 14, weights=(1, 999999, 1000000)) for seed in range(60)]

LINE = "abcdefghijklm"


def line(mosts, gaps, weights=None):
    """A thing of parts in a line, p, q, r and so on, all of size 0, and gaps (name, first, last face, room)."""
    weights = [1] * len(mosts) if weights is None else weights
    parts = [
        ("pqrstuvw"[place], LINE[place], LINE[place + 1], (0, 1), pair(Fraction(most)), weights[place])
        for place, most in enumerate(mosts)
    ]
    rows = [(name, one, other, pair(-Fraction(room)), pair(Fraction(room))) for name, one, other, room in gaps]
    return Thing(parts, rows)


def told_shares(thing):
    return [(name, Fraction(*slack), stop[-1]) for name, slack, stop in share(thing)]


def slacks_of(thing):
    return [slack for name, slack, stop in share(thing)]


def reckoned(parts, gaps):
    """The sharing by the words of promise 18: levels rise until all have stopped."""
    ways, rooms = plain_ways(parts, gaps), plain_rooms(parts, gaps)
    weights = {part[0]: part[5] for part in parts}
    slacks = {}
    while len(slacks) < len(parts):
        stops = {}
        for part in parts:
            if part[0] not in slacks:
                stops.setdefault(Fraction(*part[4]) / part[5], set()).add(part[0])
        for gap in gaps:
            rising = [name for name in ways[gap[0]] if name not in slacks]
            if rising:
                rest = rooms[gap[0]] - sum(slacks[name] for name in ways[gap[0]] if name in slacks)
                stops.setdefault(rest / sum(weights[name] for name in rising), set()).update(rising)
        level = min(stops)
        slacks.update({name: level * weights[name] for name in stops[level]})
    return slacks


class Shared(unittest.TestCase):
    def check(self, parts, gaps):
        thing = Thing(parts, gaps)
        told = share(thing)
        self.assertIs(type(told), list)
        self.assertEqual([row[0] for row in told], [part[0] for part in parts])
        slacks = {}
        for row in told:
            self.assertIs(type(row), tuple)
            self.assertEqual(len(row), 3)
            self.assertIs(type(row[1]), tuple)
            self.assertIs(type(row[2]), tuple)
            self.assertEqual(row[1], pair(Fraction(*row[1])))
            slacks[row[0]] = Fraction(*row[1])
        self.assertTrue(keeps_all(parts, gaps, slacks))
        self.assertEqual([row[2] for row in told], [due_stop(parts, gaps, slacks, part) for part in parts])
        self.assertEqual(slacks, reckoned(parts, gaps))
        self.assertEqual((thing.parts(), thing.gaps()), (parts, gaps))
        self.assertEqual(share(thing), told)

    def test_many_things(self):
        for parts, gaps in MANY + SMALL:
            self.check(parts, gaps)

    def test_many_things_have_all_kinds_of_stops(self):
        kinds = {"most": 0, "gap": 0, "nought": 0, "later gap": 0}
        for parts, gaps in MANY:
            for name, slack, stop in share(Thing(parts, gaps)):
                kinds[stop[0]] += 1
                kinds["nought"] += slack == (0, 1)
                ways = plain_ways(parts, gaps)
                mine = [gap[0] for gap in gaps if name in ways[gap[0]]]
                kinds["later gap"] += stop[0] == "gap" and stop[1] != mine[0]
        self.assertGreater(min(kinds.values()), 100)

    def test_other_orders_of_parts_and_gaps(self):
        for seed, (parts, gaps) in enumerate(MANY[100:160]):
            before = dict((row[0], row[1]) for row in share(Thing(parts, gaps)))
            chance = random.Random(seed)
            parts, gaps = list(parts), list(gaps)
            chance.shuffle(parts)
            chance.shuffle(gaps)
            self.check(parts, gaps)
            self.assertEqual(dict((row[0], row[1]) for row in share(Thing(parts, gaps))), before)

    def test_without_parts(self):
        told = share(Thing([], []))
        self.assertEqual(told, [])
        self.assertIs(type(told), list)

    def test_without_gaps(self):
        thing = line([1, Fraction(1, 3), 0, 7], [], [1, 5, 2, 1000000])
        self.assertEqual(share(thing), [("p", (1, 1), ("most",)), ("q", (1, 3), ("most",)), ("r", (0, 1), ("most",)),
                                        ("s", (7, 1), ("most",))])

    def test_one_part(self):
        for most, room, slack, stop in [
            (1, 2, 1, ("most",)), (2, 1, 1, ("gap", "g")), (1, 1, 1, ("most",)), (0, 1, 0, ("most",)),
            (1, 0, 0, ("gap", "g")), (0, 0, 0, ("most",)),
            (Fraction(1, 3), Fraction(1, 2), Fraction(1, 3), ("most",)),
            (Fraction(1, 2), Fraction(1, 3), Fraction(1, 3), ("gap", "g")),
        ]:
            for weight in (1, 2, 3, 1000000):
                self.assertEqual(share(line([most], [("g", "a", "b", room)], [weight])),
                                 [("p", pair(Fraction(slack)), stop)])
                self.assertEqual(share(line([most], [("g", "b", "a", room)], [weight])),
                                 [("p", pair(Fraction(slack)), stop)])

    def test_the_lesser_side_of_the_middle(self):
        part = ("p", "a", "b", (5, 2), (9, 1), 2)
        for low, high, slack in [((2, 1), (9, 1), (1, 2)), ((0, 1), (3, 1), (1, 2)), ((5, 2), (9, 1), (0, 1)),
                                 ((0, 1), (5, 2), (0, 1)), ((-7, 3), (20, 3), (25, 6))]:
            self.assertEqual(share(Thing([part], [("g", "a", "b", low, high)])), [("p", slack, ("gap", "g"))])

    def test_weights_alike_and_unlike(self):
        gaps = [("g", "a", "d", 12)]
        self.assertEqual(told_shares(line([99] * 3, gaps)), [("p", 4, "g"), ("q", 4, "g"), ("r", 4, "g")])
        self.assertEqual(told_shares(line([99] * 3, gaps, [1, 2, 3])), [("p", 2, "g"), ("q", 4, "g"), ("r", 6, "g")])
        self.assertEqual(told_shares(line([99] * 3, gaps, [1000000, 1, 1])),
                         [("p", Fraction(12000000, 1000002), "g"), ("q", Fraction(12, 1000002), "g"),
                          ("r", Fraction(12, 1000002), "g")])

    def test_a_gap_full_after_a_part_stopped_at_its_most(self):
        self.assertEqual(told_shares(line([1, 99, 99], [("g", "a", "d", 12)])),
                         [("p", 1, "most"), ("q", Fraction(11, 2), "g"), ("r", Fraction(11, 2), "g")])
        self.assertEqual(told_shares(line([1, 2, 99], [("g", "a", "d", 12)], [3, 2, 1])),
                         [("p", 1, "most"), ("q", 2, "most"), ("r", 9, "g")])
        self.assertEqual(told_shares(line([0, 99], [("g", "a", "c", 12)])), [("p", 0, "most"), ("q", 12, "g")])

    def test_a_gap_full_after_a_part_stopped_at_another_gap(self):
        gaps = [("g", "a", "c", 12), ("h", "a", "b", 1)]
        for order in (gaps, gaps[::-1]):
            self.assertEqual(told_shares(line([99, 99], order)), [("p", 1, "h"), ("q", 11, "g")])
        gaps = [("g", "a", "d", 12), ("h", "b", "c", 1), ("i", "a", "b", 3)]
        for order in itertools.permutations(gaps):
            self.assertEqual(told_shares(line([99] * 3, order)), [("p", 3, "i"), ("q", 1, "h"), ("r", 8, "g")])

    def test_most_and_a_full_gap_at_one_level(self):
        self.assertEqual(told_shares(line([2, 99], [("g", "a", "c", 4)])), [("p", 2, "most"), ("q", 2, "g")])
        self.assertEqual(told_shares(line([2, 2], [("g", "a", "c", 4)])), [("p", 2, "most"), ("q", 2, "most")])
        self.assertEqual(told_shares(line([2, 99], [("g", "a", "c", 3)], [2, 1])), [("p", 2, "most"), ("q", 1, "g")])
        self.assertEqual(told_shares(line([0, 1], [("g", "a", "c", 0)])), [("p", 0, "most"), ("q", 0, "g")])

    def test_a_gap_that_is_full_once_all_have_stopped_at_their_most(self):
        self.assertEqual(told_shares(line([1, 3], [("g", "a", "c", 4)])), [("p", 1, "most"), ("q", 3, "most")])

    def test_two_gaps_full_at_one_level(self):
        gaps = [("g", "a", "c", 4), ("h", "b", "d", 4)]
        self.assertEqual(told_shares(line([99] * 3, gaps)), [("p", 2, "g"), ("q", 2, "g"), ("r", 2, "h")])
        self.assertEqual(told_shares(line([99] * 3, gaps[::-1])), [("p", 2, "g"), ("q", 2, "h"), ("r", 2, "h")])
        same = [("z", "a", "c", 4), ("y", "c", "a", 4), ("x", "a", "c", 5)]
        for order in itertools.permutations(same):
            first = [gap[0] for gap in order if gap[0] != "x"][0]
            self.assertEqual(told_shares(line([99] * 2, order)), [("p", 2, first), ("q", 2, first)])

    def test_a_full_gap_on_whose_way_a_part_has_more_is_not_the_stop(self):
        for gaps in [[("g", "a", "c", 4), ("h", "a", "b", 1)], [("h", "a", "b", 1), ("g", "a", "c", 4)]]:
            self.assertEqual(told_shares(line([99, 99], gaps)), [("p", 1, "h"), ("q", 3, "g")])
        # More slack, but less for its weight.
        self.assertEqual(told_shares(line([99, 99], [("g", "a", "c", 6), ("h", "a", "b", 5)], [5, 1])),
                         [("p", 5, "g"), ("q", 1, "g")])
        self.assertEqual(told_shares(line([99, 99], [("g", "a", "c", 6), ("h", "a", "b", 4)], [5, 1])),
                         [("p", 4, "h"), ("q", 2, "g")])

    def test_no_room(self):
        gaps = [("g", "a", "c", 0), ("h", "b", "d", 5)]
        self.assertEqual(told_shares(line([9, 9, 9], gaps)), [("p", 0, "g"), ("q", 0, "g"), ("r", 5, "h")])

    def test_branches_and_pieces(self):
        def part(name, start, end, most, weight):
            return (name, start, end, (1, 1), (most, 1), weight)

        parts = [part("x", "a", "b", 9, 1), part("y", "c", "b", 9, 2), part("z", "b", "d", 1, 1),
                 part("u", "m", "n", 9, 4), part("v", "s", "t", 2, 1)]
        # x and y between a and c, their sizes against each other: the middle is 0; y and z: 2; u: -1.
        gaps = [("xy", "a", "c", (-3, 1), (3, 1)), ("yz", "c", "d", (0, 1), (4, 1)), ("u", "n", "m", (-2, 1), (0, 1))]
        self.assertEqual(told_shares(Thing(parts, gaps)),
                         [("x", Fraction(5, 3), "xy"), ("y", Fraction(4, 3), "yz"), ("z", Fraction(2, 3), "yz"),
                          ("u", 1, "u"), ("v", 2, "most")])
        self.check(parts, gaps)

    def test_great_numbers(self):
        parts = [("p", "a", "b", (SIXTY, SIXTY - 1), (SIXTY, 1), 1000000), ("q", "b", "c", (1, 7), (1, SIXTY), 1),
                 ("r", "c", "d", (-1, FOUR_HUNDRED), (FOUR_HUNDRED, 1), 999999)]
        gaps = [("g", "d", "a", (-SIXTY, 1), (FOUR_HUNDRED, 1)), ("h", "a", "b", (-SIXTY, 1), (1000, 1)),
                ("i", "b", "c", (1, 7), (2, 1))]
        self.check(parts, gaps)
        self.check(parts, gaps[:2])
        self.check(parts, gaps[:1])


class TooTight(unittest.TestCase):
    def check(self, thing, name):
        for ask in (share, share_ties):
            with self.assertRaises(Tight) as caught:
                ask(thing)
            self.assertIs(type(caught.exception), Tight)
            self.assertEqual(caught.exception.tight_gap, name)

    def test_the_first_gap_whose_room_is_below_nought(self):
        part = ("p", "a", "b", (1, 1), (1, 1), 1)
        fine = ("f", "a", "b", (0, 1), (1, 1))
        high = ("h", "a", "b", (0, 1), (SIXTY - 1, SIXTY))
        low = ("l", "a", "b", (SIXTY, SIXTY - 1), (2, 1))
        for gaps in itertools.permutations([fine, high, low]):
            first = [gap[0] for gap in gaps if gap[0] != "f"][0]
            self.check(Thing([part], list(gaps)), first)
        self.check(Thing([part], [high]), "h")
        self.check(Thing([part[:4] + ((0, 1), 1)], [low]), "l")
        self.assertEqual(share(Thing([part], [fine])), [("p", (0, 1), ("gap", "f"))])

    def test_many(self):
        for seed, (parts, gaps) in enumerate(MANY[:100]):
            chance = random.Random(seed)
            spoiled = list(gaps)
            rooms = plain_rooms(parts, gaps)
            for place, gap in enumerate(gaps):
                if chance.randrange(3) == 0:
                    less = rooms[gap[0]] + Fraction(1, chance.choice((1, 1000)))
                    spoiled[place] = gap[:4] + (pair(Fraction(*gap[4]) - less * 2),)
                    if Fraction(*spoiled[place][4]) < Fraction(*gap[3]):
                        spoiled[place] = gap[:3] + (gap[4], gap[4])
            rooms = plain_rooms(parts, spoiled)
            tight = [gap[0] for gap in spoiled if rooms[gap[0]] < 0]
            thing = Thing(parts, spoiled)
            if tight:
                self.check(thing, tight[0])
                self.assertIs(is_sharing(thing, [(0, 1)] * len(parts)), False)
            else:
                self.assertIs(is_sharing(thing, slacks_of(thing)), True)
            self.assertEqual((thing.parts(), thing.gaps()), (parts, spoiled))


class Sharings(unittest.TestCase):
    def test_the_one_told_and_below_it(self):
        for parts, gaps in MANY + SMALL:
            thing = Thing(parts, gaps)
            slacks = slacks_of(thing)
            self.assertIs(is_sharing(thing, slacks), True)
            self.assertIs(is_sharing(thing, [(0, 1)] * len(parts)), True)
            less = [pair(Fraction(*slack) * Fraction(place % 4, 3 + place % 3)) for place, slack in enumerate(slacks)]
            self.assertIs(is_sharing(thing, less), True)

    def test_above_by_however_little(self):
        for little in (Fraction(1, 3), Fraction(1, SIXTY), Fraction(1, FOUR_HUNDRED)):
            for parts, gaps in MANY[::7]:
                thing = Thing(parts, gaps)
                slacks = slacks_of(thing)
                for place, slack in enumerate(slacks):
                    # Each is stopped by its most or a full gap.
                    more = slacks[:place] + [pair(Fraction(*slack) + little)] + slacks[place + 1:]
                    self.assertIs(is_sharing(thing, more), False)
                    below = slacks[:place] + [pair(-little)] + slacks[place + 1:]
                    self.assertIs(is_sharing(thing, below), False)

    def test_each_bound_by_itself(self):
        thing = line([2, 3], [("g", "a", "c", 4)])
        for slacks, good in [
            ([2, 2], True), ([1, 3], True), ([2, 3], False), ([Fraction(201, 100), 1], False), ([0, 3], True),
            ([0, Fraction(301, 100)], False), ([-1, 1], False), ([1, Fraction(-1, 100)], False), ([0, 0], True),
            ([Fraction(3, 2), Fraction(5, 2)], True), ([Fraction(3, 2), Fraction(251, 100)], False),
            ([2, Fraction(201, 100)], False), ([-2, -2], False), ([2, Fraction(199, 100)], True),
        ]:
            self.assertIs(is_sharing(thing, [pair(Fraction(slack)) for slack in slacks]), good, slacks)

    def test_a_part_gone_backward_counts_as_well(self):
        thing = Thing([("p", "a", "b", (3, 1), (9, 1), 1), ("q", "c", "b", (3, 1), (9, 1), 1)],
                      [("g", "a", "c", (-1, 1), (1, 1))])
        self.assertIs(is_sharing(thing, [(1, 2), (1, 2)]), True)
        self.assertIs(is_sharing(thing, [(1, 1), (1, 1)]), False)

    def test_no_parts(self):
        self.assertIs(is_sharing(Thing([], []), []), True)

    def test_too_tight(self):
        thing = Thing([("p", "a", "b", (1, 1), (1, 1), 1)], [("g", "a", "b", (0, 1), (SIXTY - 1, SIXTY))])
        for slack in [(0, 1), (1, 1), (1, SIXTY), (-1, SIXTY), (-1, 1), (-2, 1), (1, 2)]:
            self.assertIs(is_sharing(thing, [slack]), False)

    def test_lists_of_a_grid(self):
        for parts, gaps in SMALL[:40]:
            thing = Thing(parts, gaps)
            chance = random.Random(len(parts))
            for turn in range(20):
                slacks = [Fraction(chance.randint(-1, 8), chance.randint(2, 5)) for part in parts]
                by_name = {part[0]: slack for part, slack in zip(parts, slacks)}
                self.assertIs(is_sharing(thing, [pair(slack) for slack in slacks]), keeps_all(parts, gaps, by_name))

    def test_long_numbers(self):
        thing = line([1, 1], [("g", "a", "c", 1)])
        half = Fraction(FOUR_HUNDRED - 1, 2 * FOUR_HUNDRED)
        self.assertIs(is_sharing(thing, [pair(half), pair(1 - half)]), True)
        self.assertIs(is_sharing(thing, [pair(half), pair(1 - half + Fraction(1, FOUR_HUNDRED ** 2))]), False)


class Fairer(unittest.TestCase):
    def check(self, thing, ones, others):
        weights = [part[5] for part in thing.parts()]
        first = sorted(Fraction(*one) / weight for one, weight in zip(ones, weights))
        second = sorted(Fraction(*other) / weight for other, weight in zip(others, weights))
        self.assertIs(fairer(thing, ones, others), first > second)
        self.assertIs(fairer(thing, others, ones), second > first)
        return first > second

    def told(self, weights, ones, others):
        thing = line([1] * len(weights), [], weights)
        ones, others = [[pair(Fraction(one)) for one in row] for row in (ones, others)]
        return self.check(thing, ones, others)

    def test_like_lists(self):
        self.assertIs(fairer(Thing([], []), [], []), False)
        for weights in ([1, 1, 1], [1, 2, 3]):
            self.assertFalse(self.told(weights, [1, 2, 3], [1, 2, 3]))
            self.assertFalse(self.told(weights, [0, 0, 0], [0, 0, 0]))

    def test_like_but_for_the_order(self):
        for ones in itertools.permutations([1, 2, 3]):
            for others in itertools.permutations([1, 2, 3]):
                self.assertFalse(self.told([1, 1, 1], ones, others))
        self.assertFalse(self.told([1, 2], [1, 4], [2, 2]))

    def test_unlike_at_a_place(self):
        self.assertTrue(self.told([1, 1, 1], [3, 2, 3], [9, 1, 9]))
        self.assertTrue(self.told([1, 1, 1], [4, 1, 3], [1, 2, 9]))
        self.assertTrue(self.told([1, 1, 1], [2, 1, 4], [1, 3, 2]))
        self.assertTrue(self.told([1, 1], [Fraction(1, SIXTY), 0], [0, Fraction(1, SIXTY + 1)]))
        self.assertFalse(self.told([1, 1], [0, 100], [1, 1]))

    def test_weights_change_the_order(self):
        self.assertTrue(self.told([1, 1], [2, 4], [1, 9]))
        self.assertTrue(self.told([1, 9], [1, 9], [2, 4]))
        self.assertFalse(self.told([1, 9], [2, 4], [1, 9]))
        self.assertTrue(self.told([1000000, 1], [1000000, 2], [3000000, Fraction(1, 2)]))

    def test_lists_that_are_no_sharings(self):
        self.assertTrue(self.told([1, 1, 1], [-1, -1, -1], [-2, 50, 50]))
        self.assertTrue(self.told([2, 1], [-1, 0], [-2, 7]))
        thing = Thing([("p", "a", "b", (1, 1), (1, 1), 1)], [("g", "a", "b", (5, 1), (6, 1))])
        self.assertIs(fairer(thing, [(8, 1)], [(7, 1)]), True)
        self.assertIs(fairer(thing, [(-8, 1)], [(7, 1)]), False)

    def test_any_two_lists(self):
        for seed in range(300):
            chance = random.Random(seed)
            size = 1 + seed % 7
            weights = [chance.choice((1, 2, 3, 1000000)) for turn in range(size)]
            values = [Fraction(chance.randint(-2, 6), chance.randint(1, 3)) for turn in range(4)]
            rows = [[chance.choice(values) * weight for weight in weights] for turn in range(2)]
            self.told(weights, rows[0], rows[1])

    def test_no_sharing_of_a_grid_is_fairer_than_the_one_told(self):
        found = 0
        for parts, gaps in SMALL:
            thing = Thing(parts, gaps)
            best = slacks_of(thing)
            grids = [[pair(Fraction(step, 3)) for step in range(Fraction(*part[4]) // Fraction(1, 3) + 1)]
                     for part in parts]
            for row in itertools.islice(itertools.product(*grids), 3000):
                if keeps_all(parts, gaps, {part[0]: Fraction(*slack) for part, slack in zip(parts, row)}):
                    found += 1
                    self.assertIs(fairer(thing, list(row), best), False)
                    self.check(thing, list(row), best)
        self.assertGreater(found, 1000)

    def test_no_sharing_by_chance_is_fairer_than_the_one_told(self):
        for seed, (parts, gaps) in enumerate(MANY[:200]):
            thing = Thing(parts, gaps)
            best = slacks_of(thing)
            chance = random.Random(seed)
            for turn in range(10):
                # Somewhere below the sharing, then one after another up to what it may have.
                slacks = {part[0]: Fraction(*slack) * chance.randint(0, 4) / 4 for part, slack in zip(parts, best)}
                self.fill(parts, gaps, slacks, chance)
                row = [pair(slacks[part[0]]) for part in parts]
                self.assertIs(is_sharing(thing, row), True)
                self.assertIs(fairer(thing, row, best), False)
                self.assertIs(fairer(thing, best, row), row != best)

    def fill(self, parts, gaps, slacks, chance):
        ways, rooms = plain_ways(parts, gaps), plain_rooms(parts, gaps)
        order = list(parts)
        chance.shuffle(order)
        for part in order:
            free = [Fraction(*part[4]) - slacks[part[0]]]
            for gap in gaps:
                if part[0] in ways[gap[0]]:
                    free.append(rooms[gap[0]] - sum(slacks[name] for name in ways[gap[0]]))
            slacks[part[0]] += min(free)


class Ties(unittest.TestCase):
    def test_names_faces_order_and_bounds(self):
        parts = [("p", "a", "b", (5, 2), (1, 4), 1), ("q", "c", "b", (-1, 3), (1, 8), 2),
                 ("r", "d", "c", (0, 1), (0, 1), 7)]
        thing = Thing(parts, [("g", "a", "c", (2, 1), (26, 9))])
        self.assertEqual(share(thing), [("p", (1, 54), ("gap", "g")), ("q", (1, 27), ("gap", "g")),
                                        ("r", (0, 1), ("most",))])
        told = share_ties(thing)
        self.assertEqual(told, [
            ("p", "a", "b", (67, 27), (68, 27)), ("q", "c", "b", (-10, 27), (-8, 27)), ("r", "d", "c", (0, 1), (0, 1)),
        ])
        self.assertIs(type(told), list)

    def test_no_parts(self):
        told = share_ties(Thing([], []))
        self.assertEqual(told, [])
        self.assertIs(type(told), list)

    def test_many(self):
        for parts, gaps in MANY:
            thing = Thing(parts, gaps)
            told = share_ties(thing)
            due = []
            for part, slack in zip(parts, slacks_of(thing)):
                size, slack = Fraction(*part[3]), Fraction(*slack)
                due.append(part[:3] + (pair(size - slack), pair(size + slack)))
            self.assertEqual(told, due)
            for tie in told:
                self.assertEqual(tie_of(tie).plain(), tie)

    def test_the_gaps_of_a_book_of_them(self):
        for parts, gaps in MANY[:150]:
            thing = Thing(parts, gaps)
            book = Book(share_ties(thing))
            slacks = {row[0]: Fraction(*row[1]) for row in share(thing)}
            ways, middles = plain_ways(parts, gaps), plain_middles(parts, gaps)
            for name, one, other, low, high in gaps:
                slack = sum(slacks[part] for part in ways[name])
                least, greatest = book.gap(one, other)
                self.assertEqual((least, greatest), (pair(middles[name] - slack), pair(middles[name] + slack)))
                self.assertTrue(Fraction(*low) <= Fraction(*least) and Fraction(*greatest) <= Fraction(*high))
                for most, value in ((True, greatest), (False, least)):
                    places = dict(book.shown(one, other, most)[2])
                    self.assertEqual(pair(Fraction(*places[other]) - Fraction(*places[one])), value)

    def test_parts_made_within_their_shares(self):
        for seed, (parts, gaps) in enumerate(MANY[:150]):
            chance = random.Random(seed)
            ties = share_ties(Thing(parts, gaps))
            for turn in range(5):
                made = []
                for part, tie in zip(parts, ties):
                    least, greatest = Fraction(*tie[3]), Fraction(*tie[4])
                    size = least + (greatest - least) * chance.choice((0, 0, 1, 1, Fraction(1, 3)))
                    made.append(part[:3] + (pair(size),) + part[4:])
                middles = plain_middles(made, gaps)
                for gap in gaps:
                    self.assertTrue(Fraction(*gap[3]) <= middles[gap[0]] <= Fraction(*gap[4]))


class Own(unittest.TestCase):
    def test_nothing_handed_in_is_changed(self):
        for parts, gaps in MANY[:60]:
            thing = Thing(parts, gaps)
            ones, others = slacks_of(thing), [(0, 1)] * len(parts)
            held = copy.deepcopy((ones, others))
            fairer(thing, ones, others)
            fairer(thing, others, ones)
            is_sharing(thing, ones)
            is_sharing(thing, [(-1, 1)] * len(parts))
            share_ties(thing)
            self.assertEqual((ones, others), held)
            self.assertEqual((thing.parts(), thing.gaps()), (parts, gaps))
            for gap in gaps:
                self.assertEqual([name for name, forward in thing.way(gap[0])], plain_ways(parts, gaps)[gap[0]])

    def test_lists_told_are_the_askers_own(self):
        parts, gaps = some_thing(8, 9, 9)
        thing = Thing(parts, gaps)
        for ask in (share, share_ties):
            first = ask(thing)
            held = copy.deepcopy(first)
            second = ask(thing)
            second.reverse()
            second.append("more")
            self.assertEqual(ask(thing), held)
            self.assertEqual(first, held)
            first.clear()
            self.assertEqual(ask(thing), held)

    def test_the_same_is_told_each_time(self):
        for parts, gaps in MANY[:40]:
            one, other = Thing(parts, gaps), Thing(list(parts), list(gaps))
            self.assertEqual(share(one), share(other))
            self.assertEqual(share(one), share(one))


if __name__ == "__main__":
    unittest.main()
