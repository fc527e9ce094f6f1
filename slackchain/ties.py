"""Ties: how far one face may lie from another one, at least and at most."""

from slackchain.errors import NoTie
from slackchain.ratios import common_divisor, minus, under

SMALL_LETTERS = "abcdefghijklmnopqrstuvwxyz"
LONGEST_NAME = 8
ZERO = (0, 1)


# Each of these asks for the kind first, so that nothing more is asked of a thing of another kind.
def is_name(thing):
    if not isinstance(thing, str):
        return False
    if len(thing) < 1 or len(thing) > LONGEST_NAME:
        return False
    return all([sign in SMALL_LETTERS for sign in thing])


def is_whole(thing):
    # True and False are ints to Python.
    return isinstance(thing, int) and not isinstance(thing, bool)


def is_fraction(thing):
    if not isinstance(thing, tuple) or len(thing) != 2:
        return False
    if not is_whole(thing[0]) or not is_whole(thing[1]):
        return False
    return thing[1] >= 1 and common_divisor(thing[0], thing[1]) == 1


def is_bound(thing):
    return thing is None or is_fraction(thing)


def are_faces(one, other):
    return is_name(one) and is_name(other) and one != other


def are_bounds(least, greatest):
    if not is_bound(least) or not is_bound(greatest):
        return False
    if least is None or greatest is None:
        return True
    return not under(greatest, least)


def is_tie(thing):
    if not isinstance(thing, tuple) or len(thing) != 5:
        return False
    return is_name(thing[0]) and are_faces(thing[1], thing[2]) and are_bounds(thing[3], thing[4])


class Tie:
    def __init__(self, row):
        self.name = row[0]
        self.start = row[1]
        self.end = row[2]
        self.least = row[3]
        self.greatest = row[4]

    def plain(self):
        return (self.name, self.start, self.end, self.least, self.greatest)

    def holds(self, size):
        if self.least is not None and under(size, self.least):
            return False
        return self.greatest is None or not under(self.greatest, size)

    def steps(self):
        told = []
        if self.greatest is not None:
            told.append((self.start, self.end, self.greatest, True))
        if self.least is not None:
            told.append((self.end, self.start, minus(ZERO, self.least), False))
        return told


class Free(Tie):
    pass


class AtLeast(Tie):
    pass


class AtMost(Tie):
    pass


class Just(Tie):
    pass


class Between(Tie):
    pass


def tie_of(thing):
    if not is_tie(thing):
        raise NoTie("a tie is (name, start, end, least, greatest), its faces unlike, its bounds in order")
    least = thing[3]
    greatest = thing[4]
    if least is None and greatest is None:
        return Free(thing)
    if greatest is None:
        return AtLeast(thing)
    if least is None:
        return AtMost(thing)
    if least == greatest:
        return Just(thing)
    return Between(thing)
