"""Promise 23, and 2: the desk, row by row, answered and refused."""

import random
import unittest
from fractions import Fraction

from slackchain.books import Book
from slackchain.changes import changed, measured
from slackchain.desk import Desk
from slackchain.errors import (
    Apart, Impossible, InRing, NoFace, NoGap, NoName, NoPart, NoRow, NoTie, Off, SlackError, Tight, Twice,
)
from slackchain.ratios import show_fraction
from slackchain.shares import share
from slackchain.things import Thing
from tests.samples import NO_NAMES, SIXTY, is_bad_ring, name_of, other_kinds, pair

# A thing p - q in a line and r by itself, with two gaps; and possible ties.
ROWS = [
    "part p a b 5/2 1/4 1", "part q c b 1/3 1/8 2", "part r m n -7 3 1000000",
    "need g a c 2 5/2", "need h m n -9 -6", "need p b a -9 9",
    "tie t a b 1/2 2", "tie u b c -1 -", "tie v c a - 4", "tie w c d 0 0", "tie free y z - -",
]
NAMES = ["p", "q", "r", "g", "h", "t", "u", "v", "w", "free", "a", "b", "new", "tie", "most"]
FACES = ["a", "b", "c", "d", "m", "n", "y", "z", "p", "new"]
ASKS = (
    ["possible", "ring", "share"] + [f"room {name}" for name in NAMES] + [f"size {name}" for name in NAMES]
    + [f"gap {one} {other}" for one in FACES for other in FACES]
)
FORMS = {
    "tie": "tie t a b 1/2 2", "part": "part s n o 1 1/2 3", "need": "need i b c 0 1", "untie": "untie t",
    "measure": "measure p 5/2", "bound": "bound g 2 3", "possible": "possible", "gap": "gap a b", "ring": "ring",
    "room": "room g", "share": "share", "size": "size p",
}


def desk_of(rows):
    desk = Desk()
    for row in rows:
        if desk.say(row) != "ok":
            raise ValueError(row)
    return desk


def answer(desk, row):
    try:
        return desk.say(row)
    except SlackError as error:
        return (type(error), getattr(error, "around", None), getattr(error, "tight_gap", None))


def told(desk):
    """All that the desk tells, refusals too; and what it keeps."""
    return [answer(desk, row) for row in ASKS] + [desk.book.ties(), desk.thing.parts(), desk.thing.gaps()]


class DeskCase(unittest.TestCase):
    def refused(self, desk, row, error):
        first = told(desk)
        with self.assertRaises(error, msg=repr(row)[:80]) as caught:
            desk.say(row)
        self.assertIs(type(caught.exception), error, repr(row)[:80])
        self.assertEqual(told(desk), first)
        return caught.exception

    def no_row(self, desk, row):
        # Many rows are tried, so what the desk tells is asked less often here.
        with self.assertRaises(NoRow, msg=repr(row)[:80]) as caught:
            desk.say(row)
        self.assertIs(type(caught.exception), NoRow)

    def says(self, desk, row, due):
        value = desk.say(row)
        self.assertEqual(value, due, row)
        self.assertIs(type(value), str)


class Answered(DeskCase):
    def test_every_row(self):
        for row in FORMS.values():
            self.assertIs(type(desk_of(ROWS).say(row)), str)

    def test_a_new_desk(self):
        for row, due in [("possible", "yes"), ("ring", "none"), ("share", "")]:
            self.says(Desk(), row, due)
        for row, error in [("gap a b", NoFace), ("gap a a", NoFace), ("room g", NoName), ("size p", NoName),
                           ("untie t", NoName), ("measure p 1", NoName), ("bound g 1 2", NoName),
                           ("need g a b 1 2", Apart)]:
            self.refused(Desk(), row, error)

    def test_changes_are_answered_ok(self):
        desk = Desk()
        for row in ROWS + ["tie t a b 1 2", "untie u", "measure p 9/4", "bound g 0 9"]:
            self.says(desk, row, "ok")

    def test_ties_and_gaps(self):
        desk = desk_of(ROWS)
        self.assertEqual(desk.book.ties(), [
            ("t", "a", "b", (1, 2), (2, 1)), ("u", "b", "c", (-1, 1), None), ("v", "c", "a", None, (4, 1)),
            ("w", "c", "d", (0, 1), (0, 1)), ("free", "y", "z", None, None),
        ])
        for row, due in [("gap a b", "1/2 2"), ("gap b a", "-2 -1/2"), ("gap b c", "-1 -"), ("gap c b", "- 1"),
                         ("gap a c", "-1/2 -"), ("gap c a", "- 1/2"), ("gap c d", "0 0"), ("gap a d", "-1/2 -"),
                         ("gap y z", "- -"), ("gap a y", "- -"), ("gap a a", "0 0"), ("gap z z", "0 0")]:
            self.says(desk, row, due)

    def test_a_tie_put_anew_in_its_place(self):
        desk = desk_of(ROWS)
        names = [tie[0] for tie in desk.book.ties()]
        self.says(desk, "tie u b c 7 8", "ok")
        self.assertEqual([tie[0] for tie in desk.book.ties()], names)
        self.says(desk, "gap b c", "7 8")
        self.says(desk, "tie u d y - 1/3", "ok")
        self.assertEqual([tie[0] for tie in desk.book.ties()], names)
        self.says(desk, "gap b c", "-6 -")
        self.says(desk, "gap d y", "- 1/3")
        self.says(desk, "tie x d y 1/3 -", "ok")
        self.assertEqual([tie[0] for tie in desk.book.ties()], names + ["x"])
        self.says(desk, "gap d y", "1/3 1/3")

    def test_untie(self):
        desk = desk_of(ROWS)
        self.says(desk, "untie free", "ok")
        self.refused(desk, "gap y z", NoFace)
        self.refused(desk, "untie free", NoName)
        for name in "tuvw":
            self.says(desk, f"untie {name}", "ok")
        self.assertEqual(desk.book.ties(), [])
        self.refused(desk, "gap a b", NoFace)
        self.says(desk, "possible", "yes")

    def test_impossible_ties(self):
        desk = desk_of(ROWS)
        self.says(desk, "tie back b a 0 -", "ok")
        self.says(desk, "possible", "no")
        error = self.refused(desk, "gap y z", Impossible)
        self.assertTrue(is_bad_ring(desk.book.ties(), error.around))
        self.refused(desk, "gap a b", Impossible)
        self.refused(desk, "gap a a", Impossible)
        self.refused(desk, "gap a new", NoFace)
        self.refused(desk, "gap new a", NoFace)
        self.says(desk, "untie back", "ok")
        self.says(desk, "possible", "yes")
        self.says(desk, "gap a b", "1/2 2")

    def test_ring(self):
        desk = desk_of(["tie x a b 1 2", "tie y b a 1 3"])
        words = desk.say("ring").split(" ")
        self.assertEqual(sorted(words), ["-x", "-y"])
        desk = desk_of(["tie x a b - -1", "tie y b a - 0"])
        self.assertEqual(sorted(desk.say("ring").split(" ")), ["x", "y"])
        desk = desk_of(["tie x a b - 1", "tie y a b 2 -", "tie z b c 0 0"])
        self.assertEqual(sorted(desk.say("ring").split(" ")), ["-y", "x"])
        self.says(desk_of(["tie x a b - 1", "tie y a b 1 -"]), "ring", "none")

    def test_rings_of_many_ties(self):
        found = 0
        for seed in range(60):
            chance = random.Random(seed)
            desk = Desk()
            for number in range(8):
                one, other = chance.sample("abcde", 2)
                bounds = [str(bound) for bound in sorted([chance.randint(-3, 4), chance.randint(-3, 4)])]
                lacks = chance.randrange(3)
                bounds = [["-", bounds[1]], [bounds[0], "-"], bounds][lacks]
                self.says(desk, f"tie {name_of(number)} {one} {other} {bounds[0]} {bounds[1]}", "ok")
            words = desk.say("ring")
            self.says(desk, "ring", words)
            if words == "none":
                self.says(desk, "possible", "yes")
                continue
            found += 1
            self.says(desk, "possible", "no")
            ring = [(word[1:], False) if word.startswith("-") else (word, True) for word in words.split(" ")]
            self.assertTrue(is_bad_ring(desk.book.ties(), ring))
        self.assertGreater(found, 10)

    def test_parts_needs_and_rooms(self):
        desk = desk_of(ROWS)
        self.assertEqual(desk.thing.parts(), [
            ("p", "a", "b", (5, 2), (1, 4), 1), ("q", "c", "b", (1, 3), (1, 8), 2),
            ("r", "m", "n", (-7, 1), (3, 1), 1000000),
        ])
        self.assertEqual(desk.thing.gaps(), [
            ("g", "a", "c", (2, 1), (5, 2)), ("h", "m", "n", (-9, 1), (-6, 1)), ("p", "b", "a", (-9, 1), (9, 1)),
        ])
        for row, due in [("room g", "1/6"), ("room h", "1"), ("room p", "13/2"), ("size p", "5/2"), ("size q", "1/3"),
                         ("size r", "-7")]:
            self.says(desk, row, due)
        self.says(desk, "share", "p 1/18 g; q 1/9 g; r 1 h")
        self.says(desk, "part s n o 0 0 1", "ok")
        self.says(desk, "need i o m 0 20", "ok")
        self.says(desk, "room i", "7")
        self.says(desk, "share", "p 1/18 g; q 1/9 g; r 1 h; s 0 most")

    def test_share(self):
        desk = desk_of(["part p a b 0 9 1"])
        self.says(desk, "share", "p 9 most")
        self.says(desk_of(["part p a b 0 9 1", "need most a b -2/3 1"]), "share", "p 2/3 most")
        desk = desk_of(["part p a b 0 9 1", "part q b c 0 9 1", "need g a c -4 4", "need h a b -1 1"])
        self.says(desk, "share", "p 1 h; q 3 g")

    def test_share_with_a_gap_too_tight(self):
        desk = desk_of(ROWS)
        self.says(desk, "need i a b 3 4", "ok")
        self.says(desk, "need j a b 0 1", "ok")
        self.assertEqual(self.refused(desk, "share", Tight).tight_gap, "i")
        self.says(desk, "room i", "-1/2")
        self.says(desk, "bound i 2 3", "ok")
        self.assertEqual(self.refused(desk, "share", Tight).tight_gap, "j")
        self.says(desk, "bound j 0 11/4", "ok")
        self.says(desk, "share", "p 1/18 g; q 1/9 g; r 1 h")

    def test_measure(self):
        desk = desk_of(ROWS)
        for row in ["measure p 2", "measure p 3", "measure q 11/24000", "measure r -11", "measure r 1/2"]:
            self.refused(desk, row, Off)
        self.says(desk, "measure p 9/4", "ok")
        for row, due in [("size p", "9/4"), ("size q", "1/3"), ("room g", "-1/12"), ("room h", "1"),
                         ("room p", "27/4")]:
            self.says(desk, row, due)
        self.refused(desk, "measure p 5/2", Off)
        self.says(desk, "measure p 9/4", "ok")
        self.assertEqual(self.refused(desk, "share", Tight).tight_gap, "g")
        self.says(desk, "measure r -4", "ok")
        self.says(desk, "size r", "-4")
        self.says(desk, "room h", "-2")
        for name in ["g", "h", "t", "new", "a"]:
            self.refused(desk, f"measure {name} 1", NoName)

    def test_bound(self):
        desk = desk_of(ROWS)
        self.says(desk, "bound g 2 3", "ok")
        self.says(desk, "room g", "1/6")
        self.says(desk, "bound g 1 3", "ok")
        self.says(desk, "room g", "5/6")
        self.says(desk, "bound g 13/6 13/6", "ok")
        self.says(desk, "room g", "0")
        self.says(desk, "share", "p 0 g; q 0 g; r 1 h")
        self.refused(desk, "bound g 2 1", NoGap)
        self.refused(desk, "bound g 1/2 1/3", NoGap)
        for name in ["q", "r", "t", "new", "a"]:
            self.refused(desk, f"bound {name} 1 2", NoName)
            self.refused(desk, f"bound {name} 2 1", NoName)

    def test_great_numbers(self):
        desk = desk_of([f"part p a b {SIXTY}/{SIXTY - 1} {SIXTY} 1000000", f"need g a b -{SIXTY} {SIXTY}",
                        f"tie t a b -{SIXTY} 1/{SIXTY}"])
        self.says(desk, "size p", f"{SIXTY}/{SIXTY - 1}")
        self.says(desk, "gap a b", f"-{SIXTY} 1/{SIXTY}")
        room = show_fraction(pair(SIXTY - Fraction(SIXTY, SIXTY - 1)))
        self.says(desk, "room g", room)
        self.says(desk, "share", f"p {room} g")
        self.says(desk, f"part q b c 0 1 {SIXTY}", "ok")


class Refused(DeskCase):
    def test_as_the_functions_refuse(self):
        for row, error in [
            ("tie t a a 1 2", NoTie), ("tie t a b 2 1", NoTie), ("tie new a b 1/2 1/3", NoTie),
            ("tie t a a - -", NoTie),
            ("part s n n 1 1 1", NoPart), ("part s n o 1 -1 1", NoPart), ("part s n o 1 -1/2 1", NoPart),
            ("part s n o 1 1 0", NoPart), ("part p a a 1 1 0", NoPart), ("part p a b 1 1 0", NoPart),
            ("part p n o 1 1 1", Twice), ("part p a b 1 1 1", Twice), ("part s a b 1 1 1", InRing),
            ("part s c a 1 1 1", InRing), ("part s n m 1 1 1", InRing), ("part g b a 1 1 1", InRing),
            ("need i a a 1 2", NoGap), ("need i a b 2 1", NoGap), ("need g a a 1 2", NoGap), ("need i a m 2 1", NoGap),
            ("need g a b 1 2", Twice), ("need p a m 1 2", Twice), ("need i a m 1 2", Apart), ("need i d y 1 2", Apart),
            ("need i new a 1 1", Apart), ("untie new", NoName), ("untie p", NoName), ("untie a", NoName),
            ("measure new 1", NoName), ("measure g 1", NoName), ("measure p 3", Off), ("bound new 1 2", NoName),
            ("bound q 2 1", NoName), ("bound g 2 1", NoGap), ("gap a new", NoFace), ("gap m n", NoFace),
            ("gap p p", NoFace), ("room q", NoName), ("room new", NoName), ("size g", NoName), ("size new", NoName),
            ("size a", NoName),
        ]:
            self.refused(desk_of(ROWS), row, error)

    def test_all_on_one_desk(self):
        desk = desk_of(ROWS)
        for row, error in [("tie t a b 2 1", NoTie), ("part s a c 1 1 1", InRing), ("part s n o 1 1 0", NoPart),
                           ("need i a n 1 2", Apart), ("bound g 2 1", NoGap), ("measure p 3", Off),
                           ("untie new", NoName), ("share all", NoRow), ("gap a new", NoFace)]:
            self.refused(desk, row, error)
        self.says(desk, "part s n o 1 1 1", "ok")
        self.says(desk, "need i m o -7 -5", "ok")
        self.says(desk, "share", "p 1/18 g; q 1/9 g; r 1000000/1000001 i; s 1/1000001 i")

    def test_impossible_and_tight_are_refused_only_where_asked_for(self):
        desk = desk_of(["tie x a b 1 2", "tie y b a 1 2", "part p a b 0 1 1", "need g a b 5 6"])
        for row in ["tie z b c 1 2", "untie z", "part q b c 1 1 1", "need h b c 0 1", "measure q 3/2", "bound h 0 2"]:
            self.says(desk, row, "ok")
        self.refused(desk, "gap a b", Impossible)
        self.refused(desk, "share", Tight)
        self.says(desk, "room g", "-5")
        self.says(desk, "size p", "0")


class NoRows(DeskCase):
    def setUp(self):
        self.desk = desk_of(ROWS)
        self.first = told(self.desk)

    def tearDown(self):
        self.assertEqual(told(self.desk), self.first)

    def test_too_few_and_too_many_words(self):
        for row in FORMS.values():
            words = row.split(" ")
            for count in range(1, len(words)):
                self.no_row(self.desk, " ".join(words[:count]))
            for more in ["a", "1", "-", "p", words[-1], "", "a b", "ok"]:
                self.no_row(self.desk, row + " " + more)

    def test_blanks(self):
        for row in FORMS.values():
            for text in (" " + row, row + " ", "  " + row, row + "  ", "\n" + row, row + "\n", "\t" + row, row + "\t",
                         row + "\r", row + "\n" + row, row + ";", row + "\x00", row + "\x0b", row + "\u00a0"):
                self.no_row(self.desk, text)
            if " " in row:
                places = [place for place, sign in enumerate(row) if sign == " "]
                for place in places:
                    for blank in ("  ", "   ", "\t", "\n", "\u00a0", " \n", "\n ", "", ",", " - - "):
                        self.no_row(self.desk, row[:place] + blank + row[place + 1:])

    def test_texts_of_blanks_and_other_texts(self):
        for text in ["", " ", "  ", "\n", "\t", "-", "ok", "yes", "no", "none", "0", "a", "p", "a b", "1 2", ";", "~"]:
            self.no_row(self.desk, text)

    def test_unknown_first_words(self):
        for first in ["Tie", "TIE", "ties", "ti", "put", "drop", "name", "bounds", "parts", "needs", "measured", "say",
                      "", "sizes", "rooms", "rings", "shares", "number", "weight", "change", "answer",
                      "__init__", "-tie"]:
            for row in FORMS.values():
                self.no_row(self.desk, " ".join([first] + row.split(" ")[1:]))

    def test_first_words_of_other_rows(self):
        kinds = {"tie": "NNNBB", "part": "NNNXXW", "need": "NNNXX", "untie": "N", "measure": "NX", "bound": "NXX",
                 "possible": "", "gap": "NN", "ring": "", "room": "N", "share": "", "size": "N"}
        for first, kind in kinds.items():
            for row in FORMS.values():
                words = row.split(" ")
                if len(kind) != len(words) - 1:
                    self.no_row(self.desk, " ".join([first] + words[1:]))

    def test_no_name_in_a_names_place(self):
        places = {"tie": (1, 2, 3), "part": (1, 2, 3), "need": (1, 2, 3), "untie": (1,), "measure": (1,), "bound": (1,),
                  "gap": (1, 2), "room": (1,), "size": (1,)}
        for first, spots in places.items():
            for place in spots:
                for spoil in NO_NAMES + ["1", "0", "1/2", "-", "-a", "a;", "P"]:
                    words = FORMS[first].split(" ")
                    words[place] = spoil
                    self.no_row(self.desk, " ".join(words))

    def test_no_number_in_a_numbers_place(self):
        places = {"tie": (4, 5), "part": (4, 5, 6), "need": (4, 5), "measure": (2,), "bound": (2, 3)}
        for first, spots in places.items():
            for place in spots:
                for spoil in ["", "--", "+1", "01", "-0", "00", "1/1", "1/0", "2/4", "0/2", "1/-2", "1.5", "a", "none",
                              "None", "1" * 61, "1/" + "1" * 61, "1/2/3", "/", "1/", "/2", "1\n", "\u0661", "\u00b2",
                              "1e3", "-" + "1" * 61, "- 1", "(1,2)", "inf"]:
                    words = FORMS[first].split(" ")
                    words[place] = spoil
                    self.no_row(self.desk, " ".join(words))
                if first != "tie":
                    words = FORMS[first].split(" ")
                    words[place] = "-"
                    self.no_row(self.desk, " ".join(words))

    def test_weights(self):
        for spoil in ["-1", "1/2", "-", "+1", "01", "00", "1.0", "a", "-0", "1" * 61]:
            self.no_row(self.desk, f"part s n o 1 1 {spoil}")

    def test_ahead_of_every_other_refusal(self):
        for row in ["tie T a a 1 2", "tie t a a 2 01", "tie t a A 2 1", "tie t a b 2 1/1", "part p a b 1 -1 x",
                    "part P a b 1 1 0", "part p a a 01 1 0", "part s a b 1 2/4 1", "need g a a 2 1/1", "need G a m 2 1",
                    "need i a Z 1 2", "need i a m 1 -", "untie NEW", "untie abcdefghi", "measure new 2/2",
                    "measure NEW 1", "measure p 3/1", "bound new 1", "bound new 1 -", "bound new 2 01", "bound g 2 1 ",
                    "gap new N", "gap new", "room New", "room new new", "size 1", "share g", "ring t", "possible t"]:
            self.no_row(self.desk, row)

    def test_what_is_no_text(self):
        for thing in other_kinds() + [b"share", ["share"], ("share",), {"share": 1}, FORMS["tie"].split(" "), 12]:
            self.no_row(self.desk, thing)


class Own(DeskCase):
    def test_two_desks_have_nothing_in_common(self):
        one, other, third = Desk(), Desk(), desk_of(ROWS)
        first, last = told(other), told(third)
        for row in ROWS:
            one.say(row)
        self.assertEqual(told(other), first)
        self.assertEqual(told(one), last)
        for row in ["untie t", "measure p 9/4", "bound g 0 9", "part s n o 1 1 1", "tie u a b 1 2"]:
            one.say(row)
        self.assertEqual(told(third), last)
        self.assertEqual(told(Desk()), first)

    def test_asking_changes_nothing(self):
        desk = desk_of(ROWS)
        first = told(desk)
        self.assertEqual(told(desk), first)
        self.assertEqual(told(desk_of(ROWS)), first)

    def test_an_error_is_the_takers_own(self):
        desk = desk_of(["tie x a b 1 2", "tie y b a 1 2"])
        first = told(desk)
        answer(desk, "gap a b")[1].clear()
        self.assertEqual(told(desk), first)


class Followed(unittest.TestCase):
    """A desk is told rows by chance, and a book and a thing are led along by their functions."""

    def row(self, chance):
        def name():
            return chance.choice("pqrst")

        def face():
            return chance.choice("abcdef")

        def number():
            return show_fraction(pair(Fraction(chance.randint(-6, 9), chance.randint(1, 3))))

        def bound():
            return chance.choice(["-", number(), number()])

        return chance.choice([
            lambda: ["tie", name(), face(), face(), bound(), bound()],
            lambda: ["tie", name(), face(), face(), number(), "-"],
            lambda: ["tie", name(), face(), face(), "-", number()],
            lambda: ["part", name(), face(), face(), number(), number(), str(chance.randint(0, 3))],
            lambda: ["part", name(), face(), face(), number(), "2", "1"],
            lambda: ["need", name(), face(), face(), number(), number()],
            lambda: ["need", name(), face(), face(), "-9", "9"],
            lambda: ["untie", name()], lambda: ["measure", name(), number()], lambda: ["bound", name(), "-9", number()],
            lambda: ["possible"], lambda: ["gap", face(), face()], lambda: ["ring"], lambda: ["room", name()],
            lambda: ["share"], lambda: ["share"], lambda: ["size", name()],
        ])()

    def number(self, word):
        return None if word == "-" else pair(Fraction(word))

    def lead(self, words):
        first, rest = words[0], words[1:]
        if first == "tie":
            self.book.put((*rest[:3], *map(self.number, rest[3:])))
        elif first == "untie":
            self.book.drop(rest[0])
        elif first == "part":
            part = (*rest[:3], self.number(rest[3]), self.number(rest[4]), int(rest[5]))
            self.thing = Thing(self.thing.parts() + [part], self.thing.gaps())
        elif first == "need":
            gap = (*rest[:3], *map(self.number, rest[3:]))
            self.thing = Thing(self.thing.parts(), self.thing.gaps() + [gap])
        elif first == "measure":
            self.thing = measured(self.thing, rest[0], self.number(rest[1]))
        elif first == "bound":
            self.thing = changed(self.thing, rest[0], self.number(rest[1]), self.number(rest[2]))
        else:
            return self.asked(first, rest)
        return "ok"

    def asked(self, first, rest):
        if first == "possible":
            return "yes" if self.book.ring() is None else "no"
        if first == "ring":
            ring = self.book.ring()
            return "none" if ring is None else " ".join(name if forward else "-" + name for name, forward in ring)
        if first == "gap":
            return " ".join("-" if bound is None else str(Fraction(*bound)) for bound in self.book.gap(*rest))
        if first == "room":
            return str(Fraction(*self.thing.room(rest[0])))
        if first == "share":
            return "; ".join(f"{name} {Fraction(*slack)} {stop[-1]}" for name, slack, stop in share(self.thing))
        for part in self.thing.parts():
            if part[0] == rest[0]:
                return str(Fraction(*part[3]))
        raise NoName("no part")

    def due(self, words):
        try:
            return self.lead(words)
        except SlackError as error:
            return (type(error), getattr(error, "around", None), getattr(error, "tight_gap", None))

    def test_rows_by_chance(self):
        seen = {}
        for seed in range(60):
            chance = random.Random(seed)
            desk = Desk()
            self.book, self.thing = Book([]), Thing([], [])
            for turn in range(120):
                words = self.row(chance)
                due = self.due(words)
                self.assertEqual(answer(desk, " ".join(words)), due, (seed, turn, words))
                seen[due[0] if isinstance(due, tuple) else words[0]] = True
        for kind in list(FORMS) + [NoTie, NoPart, NoGap, Twice, InRing, Apart, NoName, NoFace, Impossible, Tight, Off]:
            self.assertIn(kind, seen)


if __name__ == "__main__":
    unittest.main()
