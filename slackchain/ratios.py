"""Fractions: tuples (top, bottom) in lowest terms, the bottom from 1 on."""

from slackchain.errors import NoNumber


def common_divisor(one, other):
    greater = abs(one)
    lesser = abs(other)
    while lesser != 0:
        rest = greater % lesser
        greater = lesser
        lesser = rest
    return greater


def fraction(top, bottom=1):
    if bottom == 0:
        raise NoNumber("the bottom of a fraction is not 0")
    divisor = common_divisor(top, bottom)
    # Only the top may be below 0: a divisor below 0 turns both signs.
    if bottom < 0:
        divisor = -divisor
    return (top // divisor, bottom // divisor)


def plus(one, other):
    # Divisors are sought within what both bottoms share, never in the whole sum: so a long sum and
    # a short fraction are added quickly. The outcome is in lowest terms, as both fractions are.
    shared = common_divisor(one[1], other[1])
    top = one[0] * (other[1] // shared) + other[0] * (one[1] // shared)
    rest = common_divisor(top, shared)
    return (top // rest, one[1] // shared * (other[1] // rest))


def minus(one, other):
    return plus(one, (-other[0], other[1]))


def times(one, other):
    # Each is in lowest terms, so the top of the one shares divisors with the bottom of the other alone.
    across = common_divisor(one[0], other[1])
    back = common_divisor(other[0], one[1])
    return (one[0] // across * (other[0] // back), one[1] // back * (other[1] // across))


def over(one, other):
    if other[0] == 0:
        raise NoNumber("nothing goes over 0")
    # Only a top may be below 0.
    if other[0] < 0:
        return times(one, (-other[1], -other[0]))
    return times(one, (other[1], other[0]))


def under(one, other):
    # Bottoms are above 0, so multiplying by them keeps the order.
    return one[0] * other[1] < other[0] * one[1]


def show_fraction(one):
    top = one[0]
    bottom = one[1]
    if bottom == 1:
        return f"{top}"
    return f"{top}/{bottom}"


# One bottom for many fractions, so that sums of them need no divisors. It is kept as factors too: what a
# long number shares with it is sought factor by factor, as each of them is short.
class Scale:
    def __init__(self, numbers):
        self.bottom = 1
        self.factors = []
        for number in numbers:
            factor = number[1] // common_divisor(self.bottom, number[1])
            if factor > 1:
                self.bottom = self.bottom * factor
                self.factors.append(factor)

    # The number times the bottom.
    def lifted(self, number):
        # Those that the scale was made of come out whole, and need no divisors sought.
        if self.bottom % number[1] == 0:
            return (number[0] * (self.bottom // number[1]), 1)
        top = number[0]
        rest = number[1]
        for factor in self.factors:
            shared = common_divisor(rest, factor)
            top = top * (factor // shared)
            rest = rest // shared
        return (top, rest)

    # The number over the bottom.
    def lowered(self, number):
        top = number[0]
        bottom = number[1]
        # What is left of a factor shares nothing with what is left of the top, so one round is enough.
        for factor in self.factors:
            shared = common_divisor(top, factor)
            top = top // shared
            bottom = bottom * (factor // shared)
        return (top, bottom)
