"""Promises 11 to 14: books, their rings, placings, gaps and narrowed ties; promises 2 and 3 for them."""

import copy
import unittest
from fractions import Fraction

from slackchain.books import Book
from slackchain.chains import is_placing
from slackchain.errors import Impossible, NoFace, NoName, NoTie, Twice
from slackchain.reach import reached
from tests.samples import (
    FOUR_HUNDRED, NO_FRACTIONS, NO_NAMES, SIXTY, all_faces, is_bad_ring, keeps, least_sums, name_of, other_kinds,
    pair, possible_ties, some_ties, walked,
)

ROOF = [
    ("wall", "floor", "top", (5, 2), (3, 1)),
    ("beam", "top", "ridge", (1, 1), None),
    ("all", "floor", "ridge", None, (19, 4)),
    ("step", "ground", "floor", (1, 6), (1, 3)),
]
# The wall is 5/2 at least, the beam 2 at least: more than 4 together.
CROWDED = [
    ("wall", "floor", "top", (5, 2), (3, 1)),
    ("beam", "top", "ridge", (2, 1), None),
    ("all", "floor", "ridge", None, (4, 1)),
]


def kinds_of_bounds():
    """All bounds of a tie with the numbers -1, 0 and 1."""
    numbers = [(-1, 1), (0, 1), (1, 1)]
    bounds = [(None, None)] + [(one, None) for one in numbers] + [(None, one) for one in numbers]
    return bounds + [(one, other) for one in numbers for other in numbers if one[0] <= other[0]]


def triangles():
    for one in kinds_of_bounds():
        for two in kinds_of_bounds():
            for three in kinds_of_bounds():
                yield [("x", "a", "b") + one, ("y", "b", "c") + two, ("z", "c", "a") + three]


def gap_due(sums, one, other):
    least = pair(-sums[other, one]) if (other, one) in sums else None
    greatest = pair(sums[one, other]) if (one, other) in sums else None
    return (least, greatest)


class Asked(unittest.TestCase):
    """Holds all that a book tells against a plain reckoning."""

    def check_impossible(self, ask, ties):
        with self.assertRaises(Impossible) as caught:
            ask()
        self.assertTrue(is_bad_ring(ties, caught.exception.around), caught.exception.around)

    def check_shown(self, book, ties, sums, one, other, most):
        told = book.shown(one, other, most)
        value = gap_due(sums, one, other)[1 if most else 0]
        if value is None:
            self.assertIsNone(told)
            return
        self.assertIs(type(told), tuple)
        self.assertEqual(len(told), 3)
        self.assertEqual(told[0], value)
        self.assertIs(type(told[1]), list)
        first, last, sign = (one, other, 1) if most else (other, one, -1)
        faces, total = walked(ties, first, told[1])
        self.assertEqual((faces[0], faces[-1]), (first, last))
        self.assertEqual(pair(sign * total), value)
        self.assertTrue(keeps(ties, told[2]), told[2])
        places = dict(told[2])
        self.assertEqual(pair(Fraction(*places[other]) - Fraction(*places[one])), value)
        if one == other:
            self.assertEqual(told[:2], ((0, 1), []))

    def check_pairs(self, book, ties, sums):
        faces = all_faces(ties)
        for one in faces:
            for other in faces:
                told = book.gap(one, other)
                self.assertIs(type(told), tuple)
                self.assertEqual(told, gap_due(sums, one, other))
                self.check_shown(book, ties, sums, one, other, True)
                self.check_shown(book, ties, sums, one, other, False)
                self.assertEqual(book.shown(one, other), book.shown(one, other, True))

    def check_narrowed(self, book, ties, sums):
        told = book.narrowed()
        self.assertIs(type(told), list)
        self.assertEqual(told, [tie[:3] + gap_due(sums, tie[1], tie[2]) for tie in ties])
        self.assertEqual(least_sums(told), sums)
        self.assertEqual(Book(told).narrowed(), told)

    def check(self, ties, pairs=True):
        book = Book(ties)
        self.assertEqual(book.ties(), ties)
        self.assertEqual(book.faces(), all_faces(ties))
        sums = least_sums(ties)
        if sums is None:
            self.assertTrue(is_bad_ring(ties, book.ring()), book.ring())
            self.check_impossible(book.placing, ties)
            self.check_impossible(book.narrowed, ties)
            one, other = ties[0][1:3]
            self.check_impossible(lambda: book.gap(one, other), ties)
            self.check_impossible(lambda: book.shown(other, one, False), ties)
        else:
            self.assertIsNone(book.ring())
            self.assertTrue(keeps(ties, book.placing()))
            self.assertIs(is_placing(ties, book.placing()), True)
            self.check_narrowed(book, ties, sums)
            if pairs:
                self.check_pairs(book, ties, sums)
        self.assertEqual(book.ties(), ties)
        return sums is not None


class Made(unittest.TestCase):
    def refused(self, error, ties):
        with self.assertRaises(error):
            Book(ties)

    def test_order_is_kept(self):
        for ties in [ROOF, list(reversed(ROOF)), CROWDED, ROOF[:1], []]:
            book = Book(ties)
            self.assertIs(type(book.ties()), list)
            self.assertEqual(book.ties(), ties)
            for tie in book.ties():
                self.assertIs(type(tie), tuple)

    def test_faces_are_sorted_and_told_once(self):
        self.assertEqual(Book(ROOF).faces(), ["floor", "ground", "ridge", "top"])
        self.assertEqual(Book([("t", "b", "ab", None, None), ("u", "a", "aab", None, None)]).faces(),
                         ["a", "aab", "ab", "b"])
        self.assertEqual(Book([]).faces(), [])

    def test_what_is_no_tie(self):
        good = ("t", "a", "b", (0, 1), (1, 1))
        for thing in other_kinds() + [(), ("t",), good[:4], good + (None,), list(good), "abcde",
                                      ("t", "a", "a", None, None), ("t", "a", "b", (1, 1), (0, 1))]:
            self.refused(NoTie, [thing])
            self.refused(NoTie, [("s", "a", "b", None, None), thing])
            self.refused(NoTie, [thing, ("s", "a", "b", None, None)])

    def test_each_place_of_a_tie_spoiled(self):
        good = ("t", "a", "b", (0, 1), (1, 1))
        for place in range(3):
            for spoil in NO_NAMES + other_kinds():
                self.refused(NoTie, [good[:place] + (spoil,) + good[place + 1:]])
        for place in (3, 4):
            for spoil in NO_FRACTIONS + ["", "a"]:
                self.refused(NoTie, [good[:place] + (spoil,) + good[place + 1:]])

    def test_a_name_twice(self):
        first = ("t", "a", "b", None, None)
        self.refused(Twice, [first, first])
        self.refused(Twice, [first, ("t", "c", "d", (0, 1), (1, 1))])
        self.refused(Twice, [first, ("u", "a", "b", None, None), ("t", "b", "a", None, None)])
        self.assertEqual(len(Book([first, ("u", "a", "b", None, None)]).ties()), 2)

    def test_the_first_of_the_list_that_is_refused_tells_which(self):
        first = ("t", "a", "b", None, None)
        again = ("t", "c", "d", None, None)
        spoiled = ("u", "a", "a", None, None)
        self.refused(Twice, [first, again, spoiled])
        self.refused(NoTie, [first, spoiled, again])
        self.refused(NoTie, [spoiled, first, again])
        # No tie, though it has the name of one ahead.
        self.refused(NoTie, [first, ("t", "a", "a", None, None)])
        self.refused(NoTie, [first, ("t", "c", "d", (1, 1), (0, 1)), again])
        # A name of what is no tie is no name of a tie ahead.
        self.refused(NoTie, [("t", "a", "a", None, None), first])

    def test_a_face_may_be_called_like_a_tie(self):
        book = Book([("a", "a", "b", None, (1, 1)), ("b", "b", "a", None, (1, 1))])
        self.assertEqual(book.gap("a", "b"), ((-1, 1), (1, 1)))
        self.assertEqual(book.faces(), ["a", "b"])


class Changed(Asked):
    def test_put_behind_all(self):
        book = Book(ROOF)
        tie = ("slope", "ridge", "ground", None, (-1, 1))
        self.assertIsNone(book.put(tie))
        self.assertEqual(book.ties(), ROOF + [tie])
        self.assertIsNone(book.put(("attic", "attic", "ridge", None, None)))
        self.assertEqual(book.ties(), ROOF + [tie, ("attic", "attic", "ridge", None, None)])
        self.assertEqual(book.faces(), ["attic", "floor", "ground", "ridge", "top"])

    def test_put_in_the_place_of_the_one_of_that_name(self):
        for place in range(len(ROOF)):
            book = Book(ROOF)
            tie = (ROOF[place][0], "x", "y", (1, 7), (1, 7))
            self.assertIsNone(book.put(tie))
            self.assertEqual(book.ties(), ROOF[:place] + [tie] + ROOF[place + 1:])
            self.assertEqual(book.faces(), all_faces(ROOF[:place] + [tie] + ROOF[place + 1:]))

    def test_put_what_is_no_tie(self):
        book = Book(ROOF)
        for thing in other_kinds() + [(), "wall", ROOF, list(ROOF[0]), ROOF[0][:4], ROOF[0] + (None,),
                                      ("wall", "a", "a", None, None), ("wall", "a", "b", (1, 1), (0, 1)),
                                      ("Wall", "a", "b", None, None), ("wall", "a", "b", (2, 4), None)]:
            with self.assertRaises(NoTie):
                book.put(thing)
            self.assertEqual(book.ties(), ROOF)

    def test_dropped(self):
        for place in range(len(ROOF)):
            book = Book(ROOF)
            self.assertIsNone(book.drop(ROOF[place][0]))
            self.assertEqual(book.ties(), ROOF[:place] + ROOF[place + 1:])
            self.assertEqual(book.faces(), all_faces(ROOF[:place] + ROOF[place + 1:]))

    def test_dropped_and_put_again_it_is_behind_all(self):
        book = Book(ROOF)
        book.drop("beam")
        book.put(ROOF[1])
        self.assertEqual(book.ties(), [ROOF[0], ROOF[2], ROOF[3], ROOF[1]])

    def test_all_dropped(self):
        book = Book(ROOF)
        for tie in ROOF:
            book.drop(tie[0])
        self.assertEqual((book.ties(), book.faces(), book.ring(), book.placing(), book.narrowed()),
                         ([], [], None, [], []))
        with self.assertRaises(NoName):
            book.drop("wall")
        with self.assertRaises(NoFace):
            book.gap("floor", "top")

    def test_drop_a_name_that_there_is_not(self):
        book = Book(ROOF)
        for name in ["x", "floor", "ridge", "walls", "wal", "", "Wall", "wall "]:
            with self.assertRaises(NoName):
                book.drop(name)
            self.assertEqual(book.ties(), ROOF)
        book.drop("wall")
        with self.assertRaises(NoName):
            book.drop("wall")
        self.assertEqual(book.ties(), ROOF[1:])
        with self.assertRaises(NoName):
            Book([]).drop("wall")

    def test_asked_changed_and_asked_again(self):
        book = Book(ROOF)
        first = (book.placing(), book.gap("floor", "ridge"), book.narrowed())
        self.assertEqual(first[1], ((7, 2), (19, 4)))
        book.put(("all", "floor", "ridge", None, (3, 1)))
        ties = book.ties()
        self.assertTrue(is_bad_ring(ties, book.ring()))
        self.check_impossible(book.placing, ties)
        self.check_impossible(book.narrowed, ties)
        self.check_impossible(lambda: book.gap("floor", "ridge"), ties)
        self.check_impossible(lambda: book.shown("floor", "ridge"), ties)
        with self.assertRaises(NoTie):
            book.put(("all", "floor", "ridge", (4, 1), (3, 1)))
        self.assertTrue(is_bad_ring(ties, book.ring()))
        book.drop("beam")
        self.assertIsNone(book.ring())
        self.assertEqual(book.gap("floor", "ridge"), (None, (3, 1)))
        book.drop("all")
        self.assertEqual(book.faces(), ["floor", "ground", "top"])
        with self.assertRaises(NoFace):
            book.gap("floor", "ridge")
        again = Book(ROOF[:1] + ROOF[3:])
        self.assertEqual((book.ties(), book.placing(), book.narrowed()),
                         (again.ties(), again.placing(), again.narrowed()))

    def test_put_and_put_back(self):
        book = Book(ROOF)
        asked = [book.ring, book.placing, lambda: book.gap("ground", "ridge"), lambda: book.shown("ridge", "ground"),
                 book.narrowed]
        first = [ask() for ask in asked]
        book.put(("all", "floor", "ridge", (9, 1), (9, 1)))
        book.ring()
        book.put(ROOF[2])
        self.assertEqual([ask() for ask in asked], first)


class Own(unittest.TestCase):
    def told(self, book):
        one, other = book.faces()[0], book.faces()[-1]
        return [book.ties(), book.faces(), book.ring(), book.placing(), book.gap(one, other), book.shown(one, other),
                book.shown(one, other, False), book.shown(one, one), book.narrowed()]

    def test_the_list_handed_in_changed_later(self):
        ties = copy.deepcopy(ROOF)
        book = Book(ties)
        self.assertEqual(ties, ROOF)
        first = self.told(book)
        self.assertEqual(ties, ROOF)
        ties[0] = ("wall", "x", "y", None, None)
        ties.pop()
        ties.append("no tie")
        self.assertEqual(self.told(book), first)
        self.assertEqual(book.ties(), ROOF)
        ties.clear()
        self.assertEqual(self.told(book), first)

    def test_the_same_is_told_each_time(self):
        for seed in range(30):
            ties = possible_ties(seed, 5, 8)
            book = Book(ties)
            first = copy.deepcopy(self.told(book))
            self.assertEqual(self.told(book), first)
            self.assertEqual(self.told(Book(copy.deepcopy(ties))), first)

    def test_the_same_ring_is_told_each_time(self):
        tried = 0
        for seed in range(60):
            book = Book(some_ties(seed, 4, 9))
            ring = book.ring()
            if ring is None:
                continue
            tried += 1
            self.assertEqual(book.ring(), ring)
            one, other = book.faces()[:2]
            for ask in [book.placing, book.narrowed, lambda: book.gap(one, other), lambda: book.gap(other, one),
                        lambda: book.shown(one, other), lambda: book.shown(one, other, False)]:
                with self.assertRaises(Impossible) as caught:
                    ask()
                self.assertEqual(caught.exception.around, ring)
            self.assertEqual(Book(book.ties()).ring(), ring)
        self.assertGreater(tried, 20)

    def spoil(self, thing):
        if isinstance(thing, list):
            thing.reverse()
            thing.append("more")
        if isinstance(thing, (list, tuple)):
            for one in thing:
                self.spoil(one)

    def test_lists_told_are_the_askers_own(self):
        for ties in [ROOF, possible_ties(3, 6, 9)]:
            book = Book(ties)
            first = copy.deepcopy(self.told(book))
            held = self.told(book)
            self.spoil(self.told(book))
            self.assertEqual(self.told(book), first)
            self.assertEqual(held, first)
            book.put(("zzz", "new", "newer", None, None))
            book.drop(ties[0][0])
            self.assertEqual(held, first)

    def test_rings_told_are_the_askers_own(self):
        book = Book(CROWDED)
        ring = book.ring()
        kept = list(ring)
        with self.assertRaises(Impossible) as caught:
            book.placing()
        around = caught.exception.around
        ring.clear()
        self.assertEqual(around, kept)
        around.append("more")
        self.assertEqual(book.ring(), kept)
        held = book.ring()
        book.drop("all")
        self.assertEqual(held, kept)

    def test_two_books_have_nothing_in_common(self):
        one = Book(ROOF)
        other = Book(ROOF)
        third = Book(one.ties())
        first = self.told(other)
        one.put(("wall", "p", "q", None, None))
        one.put(("more", "p", "r", None, None))
        one.drop("all")
        self.assertEqual(self.told(other), first)
        self.assertEqual(self.told(third), first)
        self.assertEqual(one.ties(), [("wall", "p", "q", None, None), ROOF[1], ROOF[3], ("more", "p", "r", None, None)])

    def test_what_is_refused_changes_nothing(self):
        book = Book(ROOF)
        first = self.told(book)
        for ask in [lambda: book.put(("wall", "a", "a", None, None)), lambda: book.put(None),
                    lambda: book.drop("floor"), lambda: book.gap("floor", "x"), lambda: book.shown("x", "floor")]:
            with self.assertRaises((NoTie, NoName, NoFace)):
                ask()
            self.assertEqual(self.told(book), first)
        crowded = Book(CROWDED)
        for ask in [crowded.placing, crowded.narrowed, lambda: crowded.gap("top", "top")]:
            with self.assertRaises(Impossible):
                ask()
            self.assertEqual(crowded.ties(), CROWDED)


class Rings(Asked):
    def test_possible(self):
        book = Book(ROOF)
        self.assertIsNone(book.ring())
        self.assertTrue(keeps(ROOF, book.placing()))

    def test_impossible(self):
        book = Book(CROWDED)
        ring = book.ring()
        self.assertEqual(sorted(ring), [("all", True), ("beam", False), ("wall", False)])
        self.assertTrue(is_bad_ring(CROWDED, ring))
        self.check_impossible(book.placing, CROWDED)

    def test_no_ties(self):
        book = Book([])
        self.assertEqual((book.ties(), book.faces(), book.ring(), book.placing(), book.narrowed()),
                         ([], [], None, [], []))

    def test_free_ties(self):
        ties = [("t", "a", "b", None, None), ("u", "c", "d", None, None)]
        book = Book(ties)
        self.assertIsNone(book.ring())
        self.assertEqual([face for face, place in book.placing()], ["a", "b", "c", "d"])
        self.assertTrue(keeps(ties, book.placing()))

    def test_by_however_little(self):
        hair = pair(1 + Fraction(1, SIXTY))
        ties = [("x", "a", "b", hair, None), ("y", "a", "b", None, (1, 1))]
        book = Book(ties)
        self.assertEqual(sorted(book.ring()), [("x", False), ("y", True)])
        book.put(("y", "a", "b", None, hair))
        self.assertIsNone(book.ring())
        self.assertEqual(book.gap("a", "b"), (hair, hair))

    def test_one_piece_of_several_is_impossible(self):
        good = [("g", "m", "n", (1, 1), (1, 1)), ("h", "n", "o", None, (1, 1)), ("i", "p", "q", None, None)]
        bad = [("x", "y", "z", (1, 1), None), ("w", "z", "y", (1, 1), None)]
        for ties in [good + bad, bad + good, good[:1] + bad + good[1:]]:
            self.assertIs(self.check(ties), False)
        self.assertIs(self.check(good), True)

    def test_a_ring_that_a_tail_leads_to_and_one_that_leads_on(self):
        tail = [("ta", "m", "l", None, (-5, 1)), ("tb", "l", "k", None, (-5, 1))]
        ring = [("ra", "k", "j", None, (-1, 1)), ("rb", "j", "i", None, (2, 1)), ("rc", "i", "k", None, (-2, 1))]
        on = [("oa", "i", "h", None, (-5, 1)), ("ob", "h", "g", None, (-5, 1)), ("oc", "g", "f", None, (-5, 1))]
        for ties in [tail + ring + on, on + ring + tail, list(reversed(tail + ring + on)), on + tail + ring]:
            told = Book(ties).ring()
            self.assertTrue(is_bad_ring(ties, told), told)
            self.assertEqual(sorted(told), [("ra", True), ("rb", True), ("rc", True)])

    def test_several_rings_that_share_faces(self):
        ties = [("x", "a", "b", None, (-1, 1)), ("y", "b", "a", None, (0, 1)), ("z", "b", "c", None, (-1, 1)),
                ("w", "c", "a", None, (1, 1)), ("v", "c", "b", None, (0, 1))]
        self.assertIs(self.check(ties), False)

    def test_long_rings(self):
        for count in (2, 3, 10, 59, 60):
            for top in (0, -1):
                ties = [(name_of(one), name_of(one), name_of((one + 1) % count), None, (1, 1)) for one in range(count)]
                ties[count // 2] = ties[count // 2][:4] + ((top - count + 1, 1),)
                for order in (ties, list(reversed(ties)), ties[1::2] + ties[::2]):
                    book = Book(order)
                    if top == 0:
                        self.assertIsNone(book.ring())
                        self.assertTrue(keeps(order, book.placing()))
                    else:
                        self.assertTrue(is_bad_ring(order, book.ring()))
                        self.assertEqual(len(book.ring()), count)

    def test_a_placing_or_a_ring_never_both(self):
        possible = 0
        tried = 0
        for ties in triangles():
            book = Book(ties)
            ring = book.ring()
            if ring is None:
                possible += 1
                self.assertTrue(keeps(ties, book.placing()))
            else:
                self.assertTrue(is_bad_ring(ties, ring))
                self.check_impossible(book.placing, ties)
            tried += 1
        self.assertEqual(tried, 13 ** 3)
        self.assertGreater(possible, 100)
        self.assertGreater(tried - possible, 100)

    def test_books_of_all_kinds(self):
        told = [self.check(some_ties(seed, 2 + seed % 7, 1 + seed % 12), pairs=False) for seed in range(200)]
        self.assertGreater(told.count(True), 40)
        self.assertGreater(told.count(False), 40)


class Gaps(Asked):
    def test_ordinary(self):
        book = Book(ROOF)
        self.assertEqual(book.gap("floor", "top"), ((5, 2), (3, 1)))
        self.assertEqual(book.gap("top", "floor"), ((-3, 1), (-5, 2)))
        self.assertEqual(book.gap("floor", "ridge"), ((7, 2), (19, 4)))
        self.assertEqual(book.gap("top", "ridge"), ((1, 1), (9, 4)))
        self.assertEqual(book.gap("ground", "ridge"), ((11, 3), (61, 12)))

    def test_shown(self):
        book = Book(ROOF)
        value, chain, placing = book.shown("top", "ridge")
        self.assertEqual((value, chain), ((9, 4), [("wall", False), ("all", True)]))
        self.assertTrue(keeps(ROOF, placing))
        value, chain, placing = book.shown("floor", "ridge", False)
        self.assertEqual((value, chain), ((7, 2), [("beam", False), ("wall", False)]))
        self.assertTrue(keeps(ROOF, placing))

    def test_most_left_out_and_by_name(self):
        book = Book(ROOF)
        self.assertEqual(book.shown("floor", "top")[0], (3, 1))
        self.assertEqual(book.shown("floor", "top", True)[0], (3, 1))
        self.assertEqual(book.shown("floor", "top", False)[0], (5, 2))
        self.assertEqual(book.shown(one="floor", other="top", most=True)[0], (3, 1))
        self.assertEqual(book.shown("floor", "top", most=False)[0], (5, 2))

    def test_none_where_no_chain_leads_there(self):
        ties = [("t", "a", "b", None, (1, 1)), ("u", "c", "b", (2, 1), None), ("v", "d", "e", None, None)]
        book = Book(ties)
        self.assertEqual(book.gap("a", "b"), (None, (1, 1)))
        self.assertEqual(book.gap("b", "a"), ((-1, 1), None))
        self.assertEqual(book.gap("c", "b"), ((2, 1), None))
        self.assertEqual(book.gap("a", "c"), (None, (-1, 1)))
        self.assertEqual(book.gap("d", "e"), (None, None))
        self.assertEqual(book.gap("a", "e"), (None, None))
        self.assertIsNone(book.shown("a", "b", False))
        self.assertIsNone(book.shown("b", "a"))
        self.assertIsNone(book.shown("d", "e"))
        self.assertIsNone(book.shown("e", "d", False))
        self.assertIs(self.check(ties), True)

    def test_faces_that_are_not_reached_are_placed_where_all_ties_hold(self):
        # Chains lead from x and y into the others, none leads back.
        ties = [("t", "a", "b", (0, 1), (1, 1)), ("u", "x", "b", None, (-100, 1)), ("v", "y", "a", None, (50, 3)),
                ("w", "x", "y", (-9, 1), (-7, 2)), ("z", "p", "q", (1, 1), (1, 1))]
        self.assertIs(self.check(ties), True)
        self.assertIs(self.check([tie[:3] + ((-SIXTY, 2), None) for tie in ties]), True)

    def test_a_face_to_itself(self):
        for ties in [ROOF, [("t", "a", "b", None, None)], possible_ties(5, 6, 8)]:
            book = Book(ties)
            for face in book.faces():
                self.assertEqual(book.gap(face, face), ((0, 1), (0, 1)))
                for most in (True, False):
                    value, chain, placing = book.shown(face, face, most)
                    self.assertEqual((value, chain), ((0, 1), []))
                    self.assertTrue(keeps(ties, placing))

    def test_a_face_that_there_is_not(self):
        for ties in [ROOF, CROWDED]:
            book = Book(ties)
            for face in ["x", "wall", "all", "", "Floor", "floo", "floors"]:
                for ask in [lambda: book.gap(face, "top"), lambda: book.gap("top", face), lambda: book.gap(face, face),
                            lambda: book.shown(face, "top"), lambda: book.shown("top", face),
                            lambda: book.shown(face, face), lambda: book.shown(face, "top", False),
                            lambda: book.shown("top", face, False), lambda: book.shown(face, face, False)]:
                    with self.assertRaises(NoFace):
                        ask()
        with self.assertRaises(NoFace):
            Book([]).gap("a", "a")

    def test_impossible_behind_faces(self):
        book = Book(CROWDED + [("far", "p", "q", None, None)])
        for one in book.faces():
            for other in book.faces():
                self.check_impossible(lambda: book.gap(one, other), book.ties())
                self.check_impossible(lambda: book.shown(one, other), book.ties())
                self.check_impossible(lambda: book.shown(one, other, False), book.ties())

    def test_triangles(self):
        for number, ties in enumerate(triangles()):
            if number % 5 == 0:
                self.check(ties)

    def test_books_of_all_kinds(self):
        for seed in range(60):
            self.assertIs(self.check(possible_ties(seed, 3 + seed % 5, 2 + seed % 9)), True)

    def test_no_placing_goes_beyond(self):
        for seed in range(15):
            ties = possible_ties(seed, 5, 7)
            book = Book(ties)
            placings = [book.placing()]
            for one in book.faces():
                for other in book.faces():
                    told = [book.shown(one, other, most) for most in (True, False)]
                    placings.extend(row[2] for row in told if row is not None)
            for one in book.faces():
                for other in book.faces():
                    least, greatest = book.gap(one, other)
                    for placing in placings:
                        places = dict(placing)
                        far = Fraction(*places[other]) - Fraction(*places[one])
                        self.assertTrue(least is None or far >= Fraction(*least))
                        self.assertTrue(greatest is None or far <= Fraction(*greatest))

    def test_the_greatest_is_what_is_reached(self):
        ties = possible_ties(4, 6, 10)
        book = Book(ties)
        for face in book.faces():
            told = {other: total for other, total, chain in reached(ties, face)}
            for other in book.faces():
                self.assertEqual(book.gap(face, other)[1], told.get(other))


class Narrowed(Asked):
    def test_ordinary(self):
        self.assertEqual(Book(ROOF).narrowed(), [
            ("wall", "floor", "top", (5, 2), (3, 1)),
            ("beam", "top", "ridge", (1, 1), (9, 4)),
            ("all", "floor", "ridge", (7, 2), (19, 4)),
            ("step", "ground", "floor", (1, 6), (1, 3)),
        ])

    def test_bounds_that_others_cut(self):
        ties = [("x", "a", "b", (-9, 1), (9, 1)), ("y", "b", "a", (1, 2), (2, 3)), ("z", "a", "b", (-100, 1), None)]
        self.assertEqual(Book(ties).narrowed(), [
            ("x", "a", "b", (-2, 3), (-1, 2)), ("y", "b", "a", (1, 2), (2, 3)), ("z", "a", "b", (-2, 3), (-1, 2)),
        ])

    def test_free_ties(self):
        ties = [("x", "a", "c", None, None), ("y", "a", "b", (1, 1), (2, 1)), ("z", "b", "c", (1, 2), None),
                ("w", "d", "a", None, None), ("v", "c", "b", None, None)]
        self.assertEqual(Book(ties).narrowed(), [
            ("x", "a", "c", (3, 2), None), ("y", "a", "b", (1, 1), (2, 1)), ("z", "b", "c", (1, 2), None),
            ("w", "d", "a", None, None), ("v", "c", "b", None, (-1, 2)),
        ])

    def test_each_bound_is_the_gaps(self):
        for seed in range(20):
            book = Book(possible_ties(seed, 5, 9))
            for tie, narrowed in zip(book.ties(), book.narrowed(), strict=True):
                self.assertEqual(narrowed, tie[:3] + book.gap(tie[1], tie[2]))

    def test_the_same_placings_and_each_bound_is_come_to(self):
        for seed in range(20):
            ties = possible_ties(seed, 5, 8)
            book = Book(ties)
            narrowed = book.narrowed()
            for name, start, end, least, greatest in narrowed:
                for value, most in [(least, False), (greatest, True)]:
                    if value is None:
                        continue
                    told = Book(narrowed).shown(start, end, most)
                    self.assertEqual(told[0], value)
                    self.assertTrue(keeps(ties, told[2]))
                    self.assertTrue(keeps(narrowed, book.shown(start, end, most)[2]))

    def test_the_book_stays_as_it_was(self):
        book = Book(ROOF)
        book.narrowed()
        self.assertEqual(book.ties(), ROOF)

    def test_impossible(self):
        self.check_impossible(Book(CROWDED).narrowed, CROWDED)


if __name__ == "__main__":
    unittest.main()
