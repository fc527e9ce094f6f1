"""Things: parts that join faces without rings, and gaps between faces, with their ways and rooms."""

from slackchain.errors import Apart, InRing, NoGap, NoName, NoPart, Twice
from slackchain.ratios import minus, plus, under
from slackchain.ties import ZERO, are_faces, is_fraction, is_name, is_tie, is_whole


def is_part(thing):
    if not isinstance(thing, tuple) or len(thing) != 6:
        return False
    if not is_name(thing[0]) or not are_faces(thing[1], thing[2]):
        return False
    if not is_fraction(thing[3]) or not is_fraction(thing[4]) or not is_whole(thing[5]):
        return False
    return not under(thing[4], ZERO) and thing[5] >= 1


def is_gap(thing):
    # A gap is as a tie is, but that neither bound may lack.
    return is_tie(thing) and thing[3] is not None and thing[4] is not None


class Part:
    def __init__(self, row):
        self.name = row[0]
        self.start = row[1]
        self.end = row[2]
        self.size = row[3]
        self.most = row[4]
        self.weight = row[5]

    def plain(self):
        return (self.name, self.start, self.end, self.size, self.most, self.weight)


class Gap:
    def __init__(self, row):
        self.name = row[0]
        self.one = row[1]
        self.other = row[2]
        self.low = row[3]
        self.high = row[4]

    def plain(self):
        return (self.name, self.one, self.other, self.low, self.high)


def part_of(thing):
    if not is_part(thing):
        raise NoPart("a part is (name, start, end, size, most, weight), its faces unlike")
    return Part(thing)


def gap_of(thing):
    if not is_gap(thing):
        raise NoGap("a gap is (name, one, other, low, high), its faces unlike, its bounds in order")
    return Gap(thing)


class Joints:
    def __init__(self):
        self.leads = {}

    def link(self, part):
        self.leads.setdefault(part.start, []).append((part.end, (part.name, True)))
        self.leads.setdefault(part.end, []).append((part.start, (part.name, False)))

    # None where no parts join the two faces. There are no rings, so there is but one way.
    def way_between(self, one, other):
        found = {one: []}
        waiting = [one]
        while len(waiting) > 0:
            face = waiting.pop()
            for lead in self.leads.get(face, []):
                if lead[0] not in found:
                    found[lead[0]] = found[face] + [lead[1]]
                    waiting.append(lead[0])
        return found.get(other)


class Thing:
    def __init__(self, parts, gaps):
        joints = Joints()
        self.parts_by_name = {}
        for row in parts:
            part = part_of(row)
            if part.name in self.parts_by_name:
                raise Twice("a part ahead has this name")
            if joints.way_between(part.start, part.end) is not None:
                raise InRing("parts ahead join the faces of this part")
            joints.link(part)
            self.parts_by_name[part.name] = part
        self.gaps_by_name = {}
        self.ways = {}
        for row in gaps:
            gap = gap_of(row)
            if gap.name in self.gaps_by_name:
                raise Twice("a gap ahead has this name")
            found = joints.way_between(gap.one, gap.other)
            if found is None:
                raise Apart("no parts join the faces of this gap")
            self.gaps_by_name[gap.name] = gap
            self.ways[gap.name] = found

    def parts(self):
        return [part.plain() for part in self.parts_by_name.values()]

    def gaps(self):
        return [gap.plain() for gap in self.gaps_by_name.values()]

    def way(self, name):
        if name not in self.ways:
            raise NoName("no gap has this name")
        return list(self.ways[name])

    def middle(self, name):
        total = ZERO
        for part, forward in self.way(name):
            size = self.parts_by_name[part].size
            total = plus(total, size) if forward else minus(total, size)
        return total

    def room(self, name):
        middle = self.middle(name)
        gap = self.gaps_by_name[name]
        above = minus(gap.high, middle)
        below = minus(middle, gap.low)
        return above if under(above, below) else below
