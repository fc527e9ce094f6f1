"""Promise 2: books and things of sixty ties, parts and gaps, with numbers of sixty figures, in reasonable time."""

import inspect
import random
import time
import unittest
from fractions import Fraction

from slackchain import books, chains, reach, things
from slackchain.books import Book
from slackchain.errors import Impossible
from slackchain.reach import reached
from slackchain.things import Thing
from tests.samples import all_faces, is_bad_ring, keeps, name_of, pair, possible_ties, step_table, walked

# Each answer takes far less than a second; this is for slow machines.
LONGEST = 20


def great(chance, sign=1):
    while True:
        value = Fraction(sign * chance.randrange(10 ** 59, 10 ** 60), chance.randrange(10 ** 59, 10 ** 60))
        if value.denominator > 10 ** 58:
            return value


def great_ties(kind):
    """Sixty ties, no bottom like another: in a line, in a line but in backward order, or round in a ring."""
    chance = random.Random(kind)
    ties = []
    for one in range(60):
        bounds = sorted([great(chance), great(chance)])
        ties.append((name_of(one), name_of(one), name_of((one + 1) % 60 if kind == "ring" else one + 1),
                     pair(bounds[0]), pair(bounds[1])))
    if kind == "ring":
        ties[-1] = ties[-1][:3] + (pair(great(chance, -1) * 600), None)
    if kind == "backward":
        ties.reverse()
    return ties


class Timed(unittest.TestCase):
    def setUp(self):
        self.began = time.monotonic()

    def tearDown(self):
        self.assertLess(time.monotonic() - self.began, LONGEST)


class Books(Timed):
    def check_shown(self, ties, told, one, other, most):
        value, chain, placing = told
        first, sign = (one, 1) if most else (other, -1)
        faces, total = walked(ties, first, chain)
        self.assertEqual(faces[-1], other if most else one)
        self.assertEqual(pair(sign * total), value)
        self.assertTrue(keeps(ties, placing))
        places = dict(placing)
        self.assertEqual(pair(Fraction(*places[other]) - Fraction(*places[one])), value)

    def check_line(self, kind):
        ties = great_ties(kind)
        book = Book(ties)
        self.assertIsNone(book.ring())
        self.assertTrue(keeps(ties, book.placing()))
        self.assertEqual(book.narrowed(), ties)
        one, other = book.faces()[0], book.faces()[-1]
        least = sum(Fraction(*tie[3]) for tie in ties)
        greatest = sum(Fraction(*tie[4]) for tie in ties)
        self.assertEqual(book.gap(one, other), (pair(least), pair(greatest)))
        for most in (True, False):
            self.check_shown(ties, book.shown(one, other, most), one, other, most)
        self.assertEqual([row[0] for row in reached(ties, one)], book.faces())

    def test_a_line(self):
        self.check_line("line")

    def test_a_line_of_ties_in_backward_order(self):
        self.check_line("backward")

    def test_a_ring(self):
        ties = great_ties("ring")
        book = Book(ties)
        self.assertIsNone(book.ring())
        self.assertTrue(keeps(ties, book.placing()))
        narrowed = book.narrowed()
        self.assertEqual([tie[:3] for tie in narrowed], [tie[:3] for tie in ties])
        self.assertEqual(narrowed[-1][3:], book.gap(name_of(59), name_of(0)))
        self.check_shown(ties, book.shown(name_of(59), name_of(0)), name_of(59), name_of(0), True)
        # Round by all the leasts there is no way back that short.
        ties[-1] = ties[-1][:3] + (None, None)
        least = sum(Fraction(*tie[3]) for tie in ties[:-1])
        for room, good in [(Fraction(0), True), (Fraction(-1, 10 ** 59), False)]:
            tie = ties[-1][:3] + (pair(-(least + room)), None)
            book = Book(ties[:-1] + [tie])
            self.check_tight(book, good)

    def check_tight(self, book, good):
        if good:
            self.assertIsNone(book.ring())
            self.assertTrue(keeps(book.ties(), book.placing()))
        else:
            self.assertTrue(is_bad_ring(book.ties(), book.ring()))
            with self.assertRaises(Impossible) as caught:
                book.gap(name_of(0), name_of(1))
            self.assertTrue(is_bad_ring(book.ties(), caught.exception.around))

    def test_sixty_pieces(self):
        chance = random.Random(3)
        ties = []
        for one in range(60):
            bounds = sorted([great(chance), great(chance)])
            ties.append((name_of(one), name_of(2 * one), name_of(2 * one + 1), pair(bounds[0]), pair(bounds[1])))
        book = Book(ties)
        self.assertIsNone(book.ring())
        self.assertTrue(keeps(ties, book.placing()))
        self.assertEqual(book.narrowed(), ties)
        self.assertEqual(book.gap(name_of(0), name_of(2)), (None, None))

    def test_every_gap_of_a_wide_book(self):
        ties = possible_ties(11, 20, 60)
        book = Book(ties)
        for one in all_faces(ties):
            told = {other: total for other, total, chain in reached(ties, one)}
            for other in all_faces(ties):
                self.assertEqual(book.gap(one, other)[1], told.get(other))
                self.assertEqual(book.gap(other, one)[0],
                                 pair(-Fraction(*told[other])) if other in told else None)

    def test_impossible_with_great_numbers_and_many_rings(self):
        chance = random.Random(4)
        ties = []
        for one in range(60):
            start, end = chance.sample(range(20), 2)
            ties.append((name_of(one), name_of(start), name_of(end), pair(great(chance)), None))
        book = Book(ties)
        self.assertTrue(is_bad_ring(ties, book.ring()))

    def test_somewhat_more_than_sixty(self):
        ties = [(name_of(one), name_of(one), name_of(one + 1), (-1, 2), (one, 1)) for one in range(75)]
        book = Book(ties)
        self.assertEqual(book.gap(name_of(0), name_of(75)), ((-75, 2), (75 * 37, 1)))
        self.assertEqual(len(step_table(book.narrowed())), 150)


class Things(Timed):
    def test_sixty_parts_and_gaps(self):
        chance = random.Random(5)
        sizes = [great(chance, chance.choice((-1, 1))) for one in range(60)]
        parts = [(name_of(one), name_of(one), name_of(one + 1), pair(sizes[one]), (1, 1), 1) for one in range(60)]
        gaps = []
        for one in range(60):
            low, high = sorted([great(chance), great(chance, -1)])
            gaps.append((name_of(one), name_of(60), name_of(59 - one), pair(low), pair(high)))
        thing = Thing(parts, gaps)
        for one in range(60):
            way = [(name_of(60 - turn), False) for turn in range(1, one + 2)]
            self.assertEqual(thing.way(name_of(one)), way)
            middle = -sum(sizes[59 - one:])
            self.assertEqual(thing.middle(name_of(one)), pair(middle))
            low, high = [Fraction(*bound) for bound in gaps[one][3:]]
            self.assertEqual(thing.room(name_of(one)), pair(min(high - middle, middle - low)))


class Interface(unittest.TestCase):
    def test_names_and_arguments(self):
        for thing, arguments in [
            (chains.chain_ends, "(ties, chain)"), (chains.chain_sum, "(ties, chain)"),
            (chains.is_placing, "(ties, placing)"), (reach.reached, "(ties, face)"),
            (books.Book, "(ties)"), (Book.ties, "(self)"), (Book.faces, "(self)"), (Book.put, "(self, tie)"),
            (Book.drop, "(self, name)"), (Book.ring, "(self)"), (Book.placing, "(self)"),
            (Book.gap, "(self, one, other)"), (Book.shown, "(self, one, other, most=True)"),
            (Book.narrowed, "(self)"), (things.Thing, "(parts, gaps)"), (Thing.parts, "(self)"),
            (Thing.gaps, "(self)"), (Thing.way, "(self, name)"), (Thing.middle, "(self, name)"),
            (Thing.room, "(self, name)"),
        ]:
            self.assertEqual(str(inspect.signature(thing)), arguments, thing)


if __name__ == "__main__":
    unittest.main()
