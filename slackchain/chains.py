"""Chains of steps over ties, their sums, and placings of all faces."""

from slackchain.ratios import minus, plus
from slackchain.ties import ZERO, tie_of


def faces_of(ties):
    found = {}
    for tie in ties:
        found[tie.start] = True
        found[tie.end] = True
    return sorted(found)


def steps_by_pair(ties):
    told = {}
    for row in ties:
        tie = tie_of(row)
        for step in tie.steps():
            told[(tie.name, step[3])] = step
    return told


def chain_ends(ties, chain):
    known = steps_by_pair(ties)
    steps = [known.get(pair) for pair in chain]
    if len(steps) == 0 or None in steps:
        return None
    for ahead, step in zip(steps, steps[1:]):
        if ahead[1] != step[0]:
            return None
    return (steps[0][0], steps[-1][1])


def chain_sum(ties, chain):
    known = steps_by_pair(ties)
    total = ZERO
    for pair in chain:
        total = plus(total, known[pair][2])
    return total


def is_placing(ties, placing):
    kept = [tie_of(row) for row in ties]
    if [pair[0] for pair in placing] != faces_of(kept):
        return False
    places = dict(placing)
    return all([tie.holds(minus(places[tie.end], places[tie.start])) for tie in kept])
