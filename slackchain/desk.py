"""A desk: it keeps ties, parts and gaps, is told rows of text, and answers each with a text."""

from slackchain.books import Book
from slackchain.changes import changed, measured, part_named
from slackchain.errors import NoRow
from slackchain.ratios import show_fraction
from slackchain.shares import share
from slackchain.texts import read_fraction, read_whole
from slackchain.things import Thing
from slackchain.ties import is_name

# The words behind the first one: a name, a number, a bound that may lack, a weight.
FORMS = {
    "tie": ("name", "name", "name", "bound", "bound"),
    "part": ("name", "name", "name", "number", "number", "weight"),
    "need": ("name", "name", "name", "number", "number"),
    "untie": ("name",),
    "measure": ("name", "number"),
    "bound": ("name", "number", "number"),
    "possible": (),
    "gap": ("name", "name"),
    "ring": (),
    "room": ("name",),
    "share": (),
    "size": ("name",),
}
CHANGES = ("tie", "part", "need", "untie", "measure", "bound")
LACKING = "-"


def read_name(word):
    if not is_name(word):
        raise NoRow("a name is one to eight small letters")
    return word


def read_word(kind, word):
    if kind == "name":
        return read_name(word)
    if kind == "weight":
        return read_whole(word)
    if kind == "bound" and word == LACKING:
        return None
    return read_fraction(word)


def read_row(row):
    if not isinstance(row, str):
        raise NoRow("a row is a text")
    words = row.split(" ")
    form = FORMS.get(words[0])
    if form is None or len(words) != len(form) + 1:
        raise NoRow("there is no such row")
    return [words[0]] + [read_word(kind, word) for kind, word in zip(form, words[1:])]


def show_bound(bound):
    return LACKING if bound is None else show_fraction(bound)


def show_step(step):
    name = step[0]
    return name if step[1] else f"-{name}"


def show_ring(ring):
    if ring is None:
        return "none"
    return " ".join([show_step(step) for step in ring])


def show_share(row):
    name = row[0]
    slack = show_fraction(row[1])
    # The last word is "most" itself, or the gap's name.
    stop = row[2][-1]
    return f"{name} {slack} {stop}"


class Desk:
    def __init__(self):
        self.book = Book([])
        self.thing = Thing([], [])

    def say(self, row):
        words = read_row(row)
        if words[0] in CHANGES:
            self.change(words[0], words[1:])
            return "ok"
        return self.answer(words[0], words[1:])

    # A thing is made anew, whole, ahead of being kept, so a refusal leaves the one that is there.
    def change(self, first, rest):
        if first == "tie":
            self.book.put(tuple(rest))
        elif first == "untie":
            self.book.drop(rest[0])
        elif first == "part":
            self.thing = Thing(self.thing.parts() + [tuple(rest)], self.thing.gaps())
        elif first == "need":
            self.thing = Thing(self.thing.parts(), self.thing.gaps() + [tuple(rest)])
        elif first == "measure":
            self.thing = measured(self.thing, rest[0], rest[1])
        else:
            self.thing = changed(self.thing, rest[0], rest[1], rest[2])

    def answer(self, first, rest):
        if first == "possible":
            return "yes" if self.book.ring() is None else "no"
        if first == "gap":
            return " ".join([show_bound(bound) for bound in self.book.gap(rest[0], rest[1])])
        if first == "ring":
            return show_ring(self.book.ring())
        if first == "room":
            return show_fraction(self.thing.room(rest[0]))
        if first == "share":
            return "; ".join([show_share(row) for row in share(self.thing)])
        return show_fraction(part_named(self.thing, rest[0])[3])
