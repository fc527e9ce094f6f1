"""Promise 2: books, things and desks of sixty ties, parts and gaps, with sixty figures, in reasonable time."""

import inspect
import random
import time
import unittest
from fractions import Fraction

from slackchain import books, chains, changes, desk, reach, shares, texts, things
from slackchain.books import Book
from slackchain.changes import changed, measured, unlike_parts
from slackchain.desk import Desk
from slackchain.errors import Impossible
from slackchain.ratios import show_fraction
from slackchain.reach import reached
from slackchain.shares import fairer, is_sharing, share, share_ties
from slackchain.things import Thing
from tests.samples import (
    all_faces, due_stop, is_bad_ring, keeps, keeps_all, name_of, pair, plain_rooms, plain_ways, possible_ties,
    step_table, walked,
)

# Each answer takes a second at most; this is for slow machines.
LONGEST = 60


def great(chance, sign=1):
    while True:
        value = Fraction(sign * chance.randrange(10 ** 59, 10 ** 60), chance.randrange(10 ** 59, 10 ** 60))
        if value.denominator > 10 ** 58:
            return value


def great_ties(kind):
    """Sixty ties, no bottom like another: in a line, in a line but in backward order, or round in a ring."""
    chance = random.Random(kind)
    ties = []
    for one in range(60):
        bounds = sorted([great(chance), great(chance)])
        ties.append((name_of(one), name_of(one), name_of((one + 1) % 60 if kind == "ring" else one + 1),
                     pair(bounds[0]), pair(bounds[1])))
    if kind == "ring":
        ties[-1] = ties[-1][:3] + (pair(great(chance, -1) * 600), None)
    if kind == "backward":
        ties.reverse()
    return ties


class Timed(unittest.TestCase):
    def setUp(self):
        self.began = time.monotonic()

    def tearDown(self):
        self.assertLess(time.monotonic() - self.began, LONGEST)


class Books(Timed):
    def check_shown(self, ties, told, one, other, most):
        value, chain, placing = told
        first, sign = (one, 1) if most else (other, -1)
        faces, total = walked(ties, first, chain)
        self.assertEqual(faces[-1], other if most else one)
        self.assertEqual(pair(sign * total), value)
        self.assertTrue(keeps(ties, placing))
        places = dict(placing)
        self.assertEqual(pair(Fraction(*places[other]) - Fraction(*places[one])), value)

    def check_line(self, kind):
        ties = great_ties(kind)
        book = Book(ties)
        self.assertIsNone(book.ring())
        self.assertTrue(keeps(ties, book.placing()))
        self.assertEqual(book.narrowed(), ties)
        one, other = book.faces()[0], book.faces()[-1]
        least = sum(Fraction(*tie[3]) for tie in ties)
        greatest = sum(Fraction(*tie[4]) for tie in ties)
        self.assertEqual(book.gap(one, other), (pair(least), pair(greatest)))
        for most in (True, False):
            self.check_shown(ties, book.shown(one, other, most), one, other, most)
        self.assertEqual([row[0] for row in reached(ties, one)], book.faces())

    def test_a_line(self):
        self.check_line("line")

    def test_a_line_of_ties_in_backward_order(self):
        self.check_line("backward")

    def test_a_ring(self):
        ties = great_ties("ring")
        book = Book(ties)
        self.assertIsNone(book.ring())
        self.assertTrue(keeps(ties, book.placing()))
        narrowed = book.narrowed()
        self.assertEqual([tie[:3] for tie in narrowed], [tie[:3] for tie in ties])
        self.assertEqual(narrowed[-1][3:], book.gap(name_of(59), name_of(0)))
        self.check_shown(ties, book.shown(name_of(59), name_of(0)), name_of(59), name_of(0), True)
        # Round by all the leasts there is no way back that short.
        ties[-1] = ties[-1][:3] + (None, None)
        least = sum(Fraction(*tie[3]) for tie in ties[:-1])
        for room, good in [(Fraction(0), True), (Fraction(-1, 10 ** 59), False)]:
            tie = ties[-1][:3] + (pair(-(least + room)), None)
            book = Book(ties[:-1] + [tie])
            self.check_tight(book, good)

    def check_tight(self, book, good):
        if good:
            self.assertIsNone(book.ring())
            self.assertTrue(keeps(book.ties(), book.placing()))
        else:
            self.assertTrue(is_bad_ring(book.ties(), book.ring()))
            with self.assertRaises(Impossible) as caught:
                book.gap(name_of(0), name_of(1))
            self.assertTrue(is_bad_ring(book.ties(), caught.exception.around))

    def test_sixty_pieces(self):
        chance = random.Random(3)
        ties = []
        for one in range(60):
            bounds = sorted([great(chance), great(chance)])
            ties.append((name_of(one), name_of(2 * one), name_of(2 * one + 1), pair(bounds[0]), pair(bounds[1])))
        book = Book(ties)
        self.assertIsNone(book.ring())
        self.assertTrue(keeps(ties, book.placing()))
        self.assertEqual(book.narrowed(), ties)
        self.assertEqual(book.gap(name_of(0), name_of(2)), (None, None))

    def test_every_gap_of_a_wide_book(self):
        ties = possible_ties(11, 20, 60)
        book = Book(ties)
        for one in all_faces(ties):
            told = {other: total for other, total, chain in reached(ties, one)}
            for other in all_faces(ties):
                self.assertEqual(book.gap(one, other)[1], told.get(other))
                self.assertEqual(book.gap(other, one)[0],
                                 pair(-Fraction(*told[other])) if other in told else None)

    def test_impossible_with_great_numbers_and_many_rings(self):
        chance = random.Random(4)
        ties = []
        for one in range(60):
            start, end = chance.sample(range(20), 2)
            ties.append((name_of(one), name_of(start), name_of(end), pair(great(chance)), None))
        book = Book(ties)
        self.assertTrue(is_bad_ring(ties, book.ring()))

    def test_somewhat_more_than_sixty(self):
        ties = [(name_of(one), name_of(one), name_of(one + 1), (-1, 2), (one, 1)) for one in range(75)]
        book = Book(ties)
        self.assertEqual(book.gap(name_of(0), name_of(75)), ((-75, 2), (75 * 37, 1)))
        self.assertEqual(len(step_table(book.narrowed())), 150)


class Things(Timed):
    def test_sixty_parts_and_gaps(self):
        chance = random.Random(5)
        sizes = [great(chance, chance.choice((-1, 1))) for one in range(60)]
        parts = [(name_of(one), name_of(one), name_of(one + 1), pair(sizes[one]), (1, 1), 1) for one in range(60)]
        gaps = []
        for one in range(60):
            low, high = sorted([great(chance), great(chance, -1)])
            gaps.append((name_of(one), name_of(60), name_of(59 - one), pair(low), pair(high)))
        thing = Thing(parts, gaps)
        for one in range(60):
            way = [(name_of(60 - turn), False) for turn in range(1, one + 2)]
            self.assertEqual(thing.way(name_of(one)), way)
            middle = -sum(sizes[59 - one:])
            self.assertEqual(thing.middle(name_of(one)), pair(middle))
            low, high = [Fraction(*bound) for bound in gaps[one][3:]]
            self.assertEqual(thing.room(name_of(one)), pair(min(high - middle, middle - low)))


def great_thing(kind, figures=60):
    """Sixty parts and sixty gaps of numbers of so many figures, and no gap too tight."""
    chance = random.Random(kind)
    # Some are made a bit longer below.
    top = 10 ** max(1, figures - 4)

    def some():
        return Fraction(chance.randrange(top // 10, top), chance.randrange(top // 10, top))

    sizes = [some() for one in range(60)]
    mosts = [some() * chance.choice((1, 2, Fraction(1, 50))) for one in range(60)]
    ends = [(2 * one, 2 * one + 1) if kind == "pieces" else (one, one + 1) for one in range(60)]
    parts = [
        (name_of(one), name_of(ends[one][0]), name_of(ends[one][1]), pair(sizes[one]), pair(mosts[one]),
         chance.choice((1, 7, 999983, 1000000, chance.randint(1, 1000000))))
        for one in range(60)
    ]
    gaps = []
    for one in range(60):
        first, last = {"pieces": (one, one), "nested": (0, one), "steps": (one // 2, min(59, one + 7))}[kind]
        middle = sum(sizes[first:last + 1])
        bounds = []
        for sign in (-1, 1):
            bottom = chance.randrange(top // 10, top)
            bounds.append(pair(Fraction((middle + sign * some() * (1 + one)) // Fraction(1, bottom), bottom)))
        gaps.append((name_of(one), name_of(ends[first][0]), name_of(ends[last][1]), bounds[0], bounds[1]))
    return parts, gaps


class Shares(Timed):
    def check(self, kind, figures=60):
        parts, gaps = great_thing(kind, figures)
        thing = Thing(parts, gaps)
        told = share(thing)
        slacks = [slack for name, slack, stop in told]
        by_name = {name: Fraction(*slack) for name, slack, stop in told}
        self.assertEqual([pair(value) for value in by_name.values()], slacks)
        self.assertTrue(keeps_all(parts, gaps, by_name))
        self.check_stops(parts, gaps, by_name, [stop for name, slack, stop in told])
        self.assertIs(is_sharing(thing, slacks), True)
        more = slacks[:30] + [pair(Fraction(*slacks[30]) + Fraction(1, 10 ** 400))] + slacks[31:]
        self.assertIs(is_sharing(thing, more), False)
        self.assertIs(fairer(thing, slacks, [(0, 1)] * 60), True)
        self.assertIs(fairer(thing, slacks, slacks), False)
        self.assertEqual([tie[0] for tie in share_ties(thing)], [part[0] for part in parts])

    def check_stops(self, parts, gaps, slacks, stops):
        ways, rooms = plain_ways(parts, gaps), plain_rooms(parts, gaps)
        self.assertEqual({stop[0] for stop in stops}, {"most", "gap"})
        for part, stop in zip(parts, stops):
            if stop == ("most",):
                self.assertEqual(slacks[part[0]], Fraction(*part[4]))
            else:
                way = ways[stop[1]]
                self.assertIn(part[0], way)
                self.assertEqual(sum(slacks[name] for name in way), rooms[stop[1]])

    def test_pieces(self):
        self.check("pieces")

    def test_nested_gaps(self):
        self.check("nested")

    def test_gaps_in_steps(self):
        self.check("steps")

    def test_few_figures(self):
        for kind in ("pieces", "nested", "steps"):
            self.check(kind, 1)

    def test_stops_of_few_figures(self):
        parts, gaps = great_thing("steps", 1)
        told = share(Thing(parts, gaps))
        slacks = {name: Fraction(*slack) for name, slack, stop in told}
        self.assertEqual([row[2] for row in told], [due_stop(parts, gaps, slacks, part) for part in parts])

    def test_measured_and_changed(self):
        parts, gaps = great_thing("steps")
        thing = Thing(parts, gaps)
        same = changed(thing, gaps[0][0], gaps[0][3], gaps[0][4])
        self.assertEqual((same.parts(), same.gaps()), (parts, gaps))
        other = measured(same, parts[59][0], parts[59][3])
        ones, others = [{row[0]: row[1] for row in share(one)} for one in (thing, other)]
        told = unlike_parts(thing, other)
        self.assertEqual(told, [name for name in ones if ones[name] != others[name]])
        self.assertIn(parts[59][0], told)

    def test_a_book_of_the_ties_of_shares(self):
        # What is told and handed in again has up to four hundred figures.
        parts, gaps = great_thing("pieces")
        ties = share_ties(Thing(parts, gaps))
        book = Book(ties)
        self.assertEqual(book.narrowed(), ties)
        for gap, part, tie in zip(gaps, parts, ties):
            if gap[0] in (name_of(0), name_of(31), name_of(59)):
                self.assertEqual(book.gap(gap[1], gap[2]), tie[3:])


class Desks(Timed):
    def test_sixty_ties_parts_and_gaps(self):
        parts, gaps = great_thing("steps")
        ties = great_ties("line")
        made = Desk()
        for first, rows in [("part", parts), ("need", gaps), ("tie", ties)]:
            for row in rows:
                words = [show_fraction(word) if type(word) is tuple else str(word) for word in row]
                self.assertEqual(made.say(" ".join([first] + words)), "ok")
        self.assertEqual(made.say("possible"), "yes")
        self.assertEqual(made.say("ring"), "none")
        bounds = [show_fraction(bound) for bound in Book(ties).gap(name_of(3), name_of(40))]
        self.assertEqual(made.say(f"gap {name_of(3)} {name_of(40)}"), " ".join(bounds))
        thing = Thing(parts, gaps)
        rows = [f"{name} {show_fraction(slack)} {stop[-1]}" for name, slack, stop in share(thing)]
        self.assertEqual(made.say("share"), "; ".join(rows))
        for gap in gaps:
            self.assertEqual(made.say(f"room {gap[0]}"), show_fraction(thing.room(gap[0])))
        self.assertEqual(made.say(f"measure {parts[7][0]} {show_fraction(parts[7][3])}"), "ok")
        self.assertEqual(made.say(f"bound {gaps[7][0]} {show_fraction(gaps[7][3])} {show_fraction(gaps[7][4])}"), "ok")
        self.assertEqual(made.say(f"size {parts[7][0]}"), show_fraction(parts[7][3]))


class Interface(unittest.TestCase):
    def test_names_and_arguments(self):
        for thing, arguments in [
            (chains.chain_ends, "(ties, chain)"), (chains.chain_sum, "(ties, chain)"),
            (chains.is_placing, "(ties, placing)"), (reach.reached, "(ties, face)"),
            (books.Book, "(ties)"), (Book.ties, "(self)"), (Book.faces, "(self)"), (Book.put, "(self, tie)"),
            (Book.drop, "(self, name)"), (Book.ring, "(self)"), (Book.placing, "(self)"),
            (Book.gap, "(self, one, other)"), (Book.shown, "(self, one, other, most=True)"),
            (Book.narrowed, "(self)"), (things.Thing, "(parts, gaps)"), (Thing.parts, "(self)"),
            (Thing.gaps, "(self)"), (Thing.way, "(self, name)"), (Thing.middle, "(self, name)"),
            (Thing.room, "(self, name)"),
            (shares.share, "(thing)"), (shares.is_sharing, "(thing, slacks)"),
            (shares.fairer, "(thing, ones, others)"), (shares.share_ties, "(thing)"),
            (changes.measured, "(thing, name, size)"), (changes.changed, "(thing, name, low, high)"),
            (changes.unlike_parts, "(thing, other)"), (texts.read_fraction, "(text)"), (texts.read_whole, "(text)"),
            (desk.Desk, "()"), (Desk.say, "(self, row)"),
        ]:
            self.assertEqual(str(inspect.signature(thing)), arguments, thing)


if __name__ == "__main__":
    unittest.main()
