"""Slack shared among the parts of a thing, as fairly as can be: sharings, which is fairer, and the shares' ties."""

from slackchain.errors import Tight
from slackchain.ratios import Scale, minus, over, plus, times, under
from slackchain.ties import ZERO


# Over one bottom for all that is handed in, only weights give slacks a bottom of their own.
def scale_of(thing):
    numbers = []
    for part in thing.parts():
        numbers.extend([part[3], part[4]])
    for gap in thing.gaps():
        numbers.extend([gap[3], gap[4]])
    return Scale(numbers)


def part_names(thing, gap_name):
    return [name for name, forward in thing.way(gap_name)]


# A gap while the slacks of the parts on its way rise: the rest is its room less the slacks of those that
# have stopped, the load the weights of the others together.
class Lid:
    def __init__(self, name, rest, weights):
        self.name = name
        self.rest = rest
        self.weights = weights
        self.load = sum(weights.values())
        self.last_level = ZERO

    def full_level(self):
        return over(self.rest, (self.load, 1))

    def settle(self, part, level):
        if part in self.weights:
            weight = self.weights[part]
            self.rest = minus(self.rest, times(level, (weight, 1)))
            self.load = self.load - weight
            self.last_level = level

    # Asked when all have stopped. Levels only rise, so no part on the way has more than the last one.
    def has_stopped(self, part, level):
        return part in self.weights and self.rest == ZERO and self.last_level == level


def lids_of(thing, scale):
    weights = {}
    for part in thing.parts():
        weights[part[0]] = part[5]
    lids = []
    for gap in thing.gaps():
        room = thing.room(gap[0])
        if under(room, ZERO):
            raise Tight("the room of this gap is below 0", gap[0])
        on_way = dict([(name, weights[name]) for name in part_names(thing, gap[0])])
        lids.append(Lid(gap[0], scale.lifted(room), on_way))
    return lids


def most_levels(thing, scale):
    told = {}
    for part in thing.parts():
        told[part[0]] = over(scale.lifted(part[4]), (part[5], 1))
    return told


# At what level comes which stop, and the parts that it would stop.
def coming_stops(mosts, lids, levels):
    stops = [(mosts[name], [name]) for name in mosts if name not in levels]
    for lid in lids:
        if lid.load > 0:
            stops.append((lid.full_level(), [name for name in lid.weights if name not in levels]))
    return stops


def first_level(stops):
    found = stops[0][0]
    for stop in stops:
        if under(stop[0], found):
            found = stop[0]
    return found


# A part that comes to its most at a full gap has two stops at one level, but stops once.
def stopped_at(stops, level):
    names = {}
    for stop in stops:
        if stop[0] == level:
            for name in stop[1]:
                names[name] = True
    return list(names)


# Between two stops all that rises goes on evenly, so it is enough to go from stop to stop.
def risen_levels(mosts, lids):
    levels = {}
    while len(levels) < len(mosts):
        stops = coming_stops(mosts, lids, levels)
        level = first_level(stops)
        for name in stopped_at(stops, level):
            levels[name] = level
            for lid in lids:
                lid.settle(name, level)
    return levels


def gap_stop(lids, name, level):
    full = [lid.name for lid in lids if lid.has_stopped(name, level)]
    return ("gap", full[0])


def share(thing):
    scale = scale_of(thing)
    lids = lids_of(thing, scale)
    mosts = most_levels(thing, scale)
    levels = risen_levels(mosts, lids)
    told = []
    for part in thing.parts():
        name = part[0]
        level = levels[name]
        if level == mosts[name]:
            told.append((name, part[4], ("most",)))
        else:
            slack = scale.lowered(times(level, (part[5], 1)))
            told.append((name, slack, gap_stop(lids, name, level)))
    return told


# Where the room is below 0 this is never so, as no slack is.
def fits(room, slacks):
    total = ZERO
    for slack in slacks:
        total = plus(total, slack)
    return not under(room, total)


def is_sharing(thing, slacks):
    scale = scale_of(thing)
    by_name = {}
    for part, slack in zip(thing.parts(), slacks):
        if under(slack, ZERO) or under(part[4], slack):
            return False
        by_name[part[0]] = scale.lifted(slack)
    for gap in thing.gaps():
        on_way = [by_name[name] for name in part_names(thing, gap[0])]
        if not fits(scale.lifted(thing.room(gap[0])), on_way):
            return False
    return True


def in_order(numbers):
    told = []
    for number in numbers:
        place = len(told)
        while place > 0 and under(number, told[place - 1]):
            place = place - 1
        told.insert(place, number)
    return told


def for_weights(thing, slacks):
    return [over(slack, (part[5], 1)) for part, slack in zip(thing.parts(), slacks)]


def fairer(thing, ones, others):
    first = in_order(for_weights(thing, ones))
    second = in_order(for_weights(thing, others))
    for one, other in zip(first, second):
        if one != other:
            return under(other, one)
    return False


def share_ties(thing):
    told = []
    for part, row in zip(thing.parts(), share(thing)):
        told.append((part[0], part[1], part[2], minus(part[3], row[1]), plus(part[3], row[1])))
    return told
