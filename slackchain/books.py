"""Books of ties: rings, placings, gaps, and the ties narrowed by them."""

from slackchain.chains import faces_of
from slackchain.errors import Impossible, NoFace, NoName, Twice
from slackchain.ratios import minus, plus
from slackchain.reach import chains_from, steps_of
from slackchain.ties import ZERO, tie_of


# With all faces started from at 0, the least sums are places: across each step the sum rises by no
# more than its cost, which is what the tie asks.
def places_of(steps, faces):
    told = chains_from(steps, faces)
    places = {}
    for face in told:
        places[face] = told[face][0]
    return places


def whole_below(number):
    return number[0] // number[1]


def whole_above(number):
    return -(-number[0] // number[1])


# No step leads from a face that is reached to one that is not, so those that are not may all be moved
# up together, far enough for the steps that lead from them to the others. A whole number is enough,
# and gives their places no longer bottoms.
def enough_above(steps, reached_chains, places):
    enough = 0
    for step in steps:
        if step.target in reached_chains and step.source not in reached_chains:
            place = whole_above(reached_chains[step.target][0])
            enough = max(enough, place - whole_below(places[step.source]) - whole_below(step.cost))
    return enough


def stretched_placing(steps, reached_chains, places):
    lift = (enough_above(steps, reached_chains, places), 1)
    told = []
    for face in sorted(places):
        if face in reached_chains:
            told.append((face, reached_chains[face][0]))
        else:
            told.append((face, plus(places[face], lift)))
    return told


def gap_between(chains, one, other):
    least = None
    greatest = None
    if one in chains[other]:
        least = minus(ZERO, chains[other][one][0])
    if other in chains[one]:
        greatest = chains[one][other][0]
    return (least, greatest)


class Book:
    def __init__(self, ties):
        # A dict keeps the ties' order, and a tie's place where another one is put there.
        self.by_name = {}
        for row in ties:
            tie = tie_of(row)
            if tie.name in self.by_name:
                raise Twice("a tie ahead has this name")
            self.by_name[tie.name] = tie

    def kept(self):
        return list(self.by_name.values())

    def ties(self):
        return [tie.plain() for tie in self.kept()]

    def faces(self):
        return faces_of(self.kept())

    def put(self, tie):
        made = tie_of(tie)
        self.by_name[made.name] = made

    def drop(self, name):
        if name not in self.by_name:
            raise NoName("no tie has this name")
        self.by_name.pop(name)

    def ring(self):
        try:
            self.placing()
        except Impossible as e:
            return e.around
        return None

    def placing(self):
        places = places_of(steps_of(self.kept()), self.faces())
        return [(face, places[face]) for face in sorted(places)]

    def check_faces(self, one, other):
        faces = self.faces()
        if one not in faces or other not in faces:
            raise NoFace("the book has no such face")

    def chains_of(self, faces):
        steps = steps_of(self.kept())
        # Places are sought first, so that impossible ties are refused with the same ring whatever is asked.
        places_of(steps, self.faces())
        told = {}
        for face in faces:
            told[face] = chains_from(steps, [face])
        return told

    def gap(self, one, other):
        self.check_faces(one, other)
        return gap_between(self.chains_of([one, other]), one, other)

    def farthest(self, one, other):
        steps = steps_of(self.kept())
        places = places_of(steps, self.faces())
        told = chains_from(steps, [one])
        if other not in told:
            return None
        return (told[other][0], told[other][1], stretched_placing(steps, told, places))

    def shown(self, one, other, most=True):
        self.check_faces(one, other)
        if most:
            return self.farthest(one, other)
        found = self.farthest(other, one)
        if found is None:
            return None
        return (minus(ZERO, found[0]), found[1], found[2])

    def narrowed(self):
        chains = self.chains_of(self.faces())
        told = []
        for tie in self.kept():
            bounds = gap_between(chains, tie.start, tie.end)
            told.append((tie.name, tie.start, tie.end, bounds[0], bounds[1]))
        return told
