"""Which faces chains lead to, with what least sums, and rings whose sum is below 0."""

from slackchain.errors import Impossible
from slackchain.ratios import Scale, plus
from slackchain.ties import ZERO, tie_of


class Step:
    def __init__(self, name, row, scale):
        self.source = row[0]
        self.target = row[1]
        self.cost = row[2]
        self.whole = scale.lifted(row[2])[0]
        self.pair = (name, row[3])


# The steps have their costs as whole numbers too, over one bottom for all: chains are compared by
# these, so that no divisors are sought for each sum.
def steps_of(ties):
    rows = []
    for tie in ties:
        rows.extend([(tie.name, row) for row in tie.steps()])
    scale = Scale([row[2] for name, row in rows])
    return [Step(name, row, scale) for name, row in rows]


def ring_behind(lasts, face):
    passed = {}
    at = face
    while at not in passed:
        passed[at] = True
        at = lasts[at].source
    # The walk came to this face twice, so it lies on the ring itself.
    backward = []
    turn = at
    while len(backward) == 0 or turn != at:
        backward.append(lasts[turn].pair)
        turn = lasts[turn].source
    return list(reversed(backward))


# Without a ring below 0 a chain of the least sum comes to no face twice, so it takes each step once
# at most, and one round more than there are steps changes nothing. Where it does change something,
# the last steps of the chains lead round in a ring, and its sum is below 0.
def last_steps(steps, starts):
    sums = {}
    for face in starts:
        sums[face] = 0
    lasts = {}
    changed = None
    for turn in range(len(steps) + 1):
        changed = None
        for step in steps:
            if step.source in sums:
                total = sums[step.source] + step.whole
                if step.target not in sums or total < sums[step.target]:
                    sums[step.target] = total
                    lasts[step.target] = step
                    changed = step.target
        if changed is None:
            return lasts
    raise Impossible("a ring of steps has a sum below 0", ring_behind(lasts, changed))


# The sums are added up anew in fractions, along the chains that were found: over the one bottom for
# all they would be far longer, and slow to bring to lowest terms.
def chains_from(steps, starts):
    lasts = last_steps(steps, starts)
    told = {}
    for face in starts:
        if face not in lasts:
            told[face] = (ZERO, [])
    for face in lasts:
        missing = []
        at = face
        while at not in told:
            missing.append(lasts[at])
            at = lasts[at].source
        for step in reversed(missing):
            ahead = told[step.source]
            told[step.target] = (plus(ahead[0], step.cost), ahead[1] + [step.pair])
    return told


def reached(ties, face):
    told = chains_from(steps_of([tie_of(row) for row in ties]), [face])
    return [(other, told[other][0], told[other][1]) for other in sorted(told)]
