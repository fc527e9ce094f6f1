"""What several tests use: things of any kind, books to try, and a plain reckoning to hold answers against."""

import random
from fractions import Fraction

SIXTY = 10 ** 60 - 1
FOUR_HUNDRED = 10 ** 400 - 1
LETTERS = "abcdefghijklmnopqrstuvwxyz"


class Stubborn:
    """A thing that answers nothing that is asked of it."""

    def refuse(self, *rest):
        raise RuntimeError("asked of a thing of another kind")

    __eq__ = __ne__ = __lt__ = __le__ = __gt__ = __ge__ = refuse
    __bool__ = __len__ = __iter__ = __getitem__ = __hash__ = __contains__ = refuse


class Agreeing:
    """A thing that says it equals whatever it is held against."""

    def __eq__(self, other):
        return True


def other_kinds():
    return [
        None, True, False, 0, 1, -1, SIXTY, 1.5, float("nan"), 1j, b"", b"a", bytearray(b"a"),
        [], ["a"], {}, {"a": 1}, set(), {"a"}, frozenset("a"), range(2), object(), Stubborn(), Agreeing(),
        len, int, str, tuple, ValueError("a"), iter([]), NotImplemented, ...,
    ]


NO_NAMES = [
    "", "abcdefghi", "a" * 1000, "A", "aB", "Ab", "abC", "ABCDEFGH", "1", "a1", "1a", " ", "a b", " a", "a ",
    "\n", "a\n", "\na", "abcdefgh\n", "a\nb", "a_b", "_", "a-b", "-", "-a", "a/b", "`", "{", "a`", "{a", "@", "[",
    "~", "\t", "a\t", "a\r", "\x00", "\u00e4", "a\u00e9", "\u00df", "\u00aa", "\u0430", "\u03b1", "\uff41",
    "\ufb01", "\U0001d41a",
]

NO_FRACTIONS = [
    (), (1,), (1, 2, 3), (1, 1, 1), (0,), (0, 0), (1, 0), (-1, 0), (1, -1), (0, -1), (1, -2), (-1, -2), (3, -4),
    (2, 4), (-2, 4), (2, 2), (-2, 2), (0, 2), (0, 3), (6, 3), (3, 6), (SIXTY, SIXTY), (0, SIXTY), (SIXTY, 3),
    (True, 1), (1, True), (False, 1), (1, False), (True, True), (True, 2), (0, True),
    (1.0, 1), (1, 1.0), (1, None), (None, 1), (None, None), ("1", 1), (1, "2"), ("1", "2"),
    ((1, 1), 1), (1, (1, 1)), ((1, 1), (1, 1)), ([1], 2), (1, [2]), (1, {}), (1j, 1), (float("nan"), 1),
    [1, 2], [1, 1], [], "1/2", "12", "ab", {1: 2}, {1: 1, 2: 2}, range(1, 3),
    (Stubborn(), 1), (1, Stubborn()), (Agreeing(), 1), (1, Agreeing()), (Agreeing(), Agreeing()),
]


def pair(value):
    return (value.numerator, value.denominator)


def name_of(number):
    """Names in alphabetical order: aaa, aab, .."""
    return LETTERS[number // 676 % 26] + LETTERS[number // 26 % 26] + LETTERS[number % 26]


def step_table(ties):
    """Every step of these ties, by its pair: from, to, cost."""
    table = {}
    for name, start, end, least, greatest in ties:
        if greatest is not None:
            table[(name, True)] = (start, end, Fraction(*greatest))
        if least is not None:
            table[(name, False)] = (end, start, -Fraction(*least))
    return table


def all_faces(ties):
    return sorted({face for tie in ties for face in tie[1:3]})


def walked(ties, face, chain):
    """The faces that a chain comes to, from this one on, and its sum; ValueError where it is no chain."""
    table = step_table(ties)
    faces = [face]
    total = Fraction(0)
    for mark in chain:
        if type(mark) is not tuple or mark not in table or type(mark[1]) is not bool:
            raise ValueError("no such step")
        source, target, cost = table[mark]
        if source != faces[-1]:
            raise ValueError("the step begins elsewhere")
        faces.append(target)
        total += cost
    return faces, total


def is_bad_ring(ties, ring):
    """Whether it is a list that is a ring of these ties, its sum below 0."""
    if type(ring) is not list or ring == [] or ring[0] not in step_table(ties):
        return False
    faces, total = walked(ties, step_table(ties)[ring[0]][0], ring)
    return faces[0] == faces[-1] and len(set(faces)) == len(faces) - 1 and total < 0


def least_sums(ties):
    """The least sum of a chain from a face to a face, for each two that have one; None where ties are impossible."""
    faces = all_faces(ties)
    sums = {(face, face): Fraction(0) for face in faces}
    for source, target, cost in step_table(ties).values():
        sums[source, target] = min(cost, sums.get((source, target), cost))
    for middle in faces:
        for one in faces:
            if (one, middle) not in sums:
                continue
            for other in faces:
                if (middle, other) in sums:
                    total = sums[one, middle] + sums[middle, other]
                    if (one, other) not in sums or total < sums[one, other]:
                        sums[one, other] = total
    if any(sums[face, face] < 0 for face in faces):
        return None
    return sums


def keeps(ties, placing):
    """Whether it is a list that is a placing of these ties, in fractions in lowest terms."""
    if type(placing) is not list or any(type(one) is not tuple or type(one[1]) is not tuple for one in placing):
        return False
    if [face for face, place in placing] != all_faces(ties):
        return False
    if any(pair(Fraction(*place)) != place for face, place in placing):
        return False
    places = {face: Fraction(*place) for face, place in placing}
    for name, start, end, least, greatest in ties:
        far = places[end] - places[start]
        if least is not None and far < Fraction(*least) or greatest is not None and far > Fraction(*greatest):
            return False
    return True


def some_ties(seed, faces, count, spread=6, bottoms=(1, 2, 3, 5)):
    """Ties of all kinds among so many faces, the same for the same seed; some possible, some not."""
    chance = random.Random(seed)
    ties = []
    for number in range(count):
        start, end = chance.sample(range(faces), 2)
        bounds = sorted(Fraction(chance.randint(-spread, spread), chance.choice(bottoms)) for turn in range(2))
        least, greatest = pair(bounds[0]), pair(bounds[1])
        kind = chance.randrange(8)
        if kind == 0:
            least, greatest = None, None
        elif kind in (1, 2):
            greatest = None
        elif kind in (3, 4):
            least = None
        elif kind == 5:
            greatest = least
        ties.append((name_of(number), name_of(start), name_of(end), least, greatest))
    return ties


def possible_ties(seed, faces, count):
    """Ties of all kinds that the same places keep, some of them just so."""
    chance = random.Random(seed)
    places = [Fraction(chance.randint(-20, 20), chance.choice((1, 2, 3))) for face in range(faces)]
    ties = []
    for name, start, end, least, greatest in some_ties(seed, faces, count):
        one, other = chance.sample(range(faces), 2)
        far = places[other] - places[one]
        if least is not None:
            least = pair(far - chance.choice((0, 0, 1, 4)))
        if greatest is not None:
            greatest = pair(far + chance.choice((0, 0, Fraction(1, 2), 3)))
        ties.append((name, name_of(one), name_of(other), least, greatest))
    return ties
