"""Fractions: tuples (top, bottom) in lowest terms, the bottom from 1 on."""

from slackchain.errors import NoNumber


def common_divisor(one, other):
    greater = abs(one)
    lesser = abs(other)
    while lesser != 0:
        rest = greater % lesser
        greater = lesser
        lesser = rest
    return greater


def fraction(top, bottom=1):
    if bottom == 0:
        raise NoNumber("the bottom of a fraction is not 0")
    divisor = common_divisor(top, bottom)
    # Only the top may be below 0: a divisor below 0 turns both signs.
    if bottom < 0:
        divisor = -divisor
    return (top // divisor, bottom // divisor)


def plus(one, other):
    # Divisors are sought within what both bottoms share, never in the whole sum: so a long sum and
    # a short fraction are added quickly. The outcome is in lowest terms, as both fractions are.
    shared = common_divisor(one[1], other[1])
    top = one[0] * (other[1] // shared) + other[0] * (one[1] // shared)
    rest = common_divisor(top, shared)
    return (top // rest, one[1] // shared * (other[1] // rest))


def minus(one, other):
    return plus(one, (-other[0], other[1]))


def times(one, other):
    return fraction(one[0] * other[0], one[1] * other[1])


def over(one, other):
    # The bottom is 0 just where the other one is 0, and is refused then.
    return fraction(one[0] * other[1], one[1] * other[0])


def under(one, other):
    # Bottoms are above 0, so multiplying by them keeps the order.
    return one[0] * other[1] < other[0] * one[1]


def show_fraction(one):
    top = one[0]
    bottom = one[1]
    if bottom == 1:
        return f"{top}"
    return f"{top}/{bottom}"
