"""Things with a part measured or a gap changed, and the parts whose slack is another one then."""

from slackchain.errors import NoName, Off
from slackchain.ratios import minus, under
from slackchain.shares import share
from slackchain.things import Thing
from slackchain.ties import ZERO


def part_named(thing, name):
    for part in thing.parts():
        if part[0] == name:
            return part
    raise NoName("no part has this name")


def gap_named(thing, name):
    for gap in thing.gaps():
        if gap[0] == name:
            return gap
    raise NoName("no gap has this name")


def with_row(rows, row):
    return [row if other[0] == row[0] else other for other in rows]


def is_off(part, size):
    more = minus(size, part[3])
    less = minus(part[3], size)
    return under(part[4], more) or under(part[4], less)


def measured(thing, name, size):
    part = part_named(thing, name)
    if is_off(part, size):
        raise Off("the size is off the part's by more than its most")
    row = (part[0], part[1], part[2], size, ZERO, part[5])
    return Thing(with_row(thing.parts(), row), thing.gaps())


def changed(thing, name, low, high):
    gap = gap_named(thing, name)
    # A low greater than the high is refused when the thing is made.
    row = (gap[0], gap[1], gap[2], low, high)
    return Thing(thing.parts(), with_row(thing.gaps(), row))


def unlike_parts(thing, other):
    ones = share(thing)
    others = {}
    for row in share(other):
        others[row[0]] = row[1]
    return [row[0] for row in ones if row[1] != others[row[0]]]
