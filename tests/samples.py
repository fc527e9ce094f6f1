"""What several tests use: things of any kind, books to try, and a plain reckoning to hold answers against."""

import random
from fractions import Fraction

SIXTY = 10 ** 60 - 1
FOUR_HUNDRED = 10 ** 400 - 1
LETTERS = "abcdefghijklmnopqrstuvwxyz"


class Stubborn:
    """A thing that answers nothing that is asked of it."""

    def refuse(self, *rest):
        raise RuntimeError("asked of a thing of another kind")

    __eq__ = __ne__ = __lt__ = __le__ = __gt__ = __ge__ = refuse
    __bool__ = __len__ = __iter__ = __getitem__ = __hash__ = __contains__ = refuse


class Agreeing:
    """A thing that says it equals whatever it is held against."""

    def __eq__(self, other):
        return True


def other_kinds():
    return [
        None, True, False, 0, 1, -1, SIXTY, 1.5, float("nan"), 1j, b"", b"a", bytearray(b"a"),
        [], ["a"], {}, {"a": 1}, set(), {"a"}, frozenset("a"), range(2), object(), Stubborn(), Agreeing(),
        len, int, str, tuple, ValueError("a"), iter([]), NotImplemented, ...,
    ]


NO_NAMES = [
    "", "abcdefghi", "a" * 1000, "A", "aB", "Ab", "abC", "ABCDEFGH", "1", "a1", "1a", " ", "a b", " a", "a ",
    "\n", "a\n", "\na", "abcdefgh\n", "a\nb", "a_b", "_", "a-b", "-", "-a", "a/b", "`", "{", "a`", "{a", "@", "[",
    "~", "\t", "a\t", "a\r", "\x00", "\u00e4", "a\u00e9", "\u00df", "\u00aa", "\u0430", "\u03b1", "\uff41",
    "\ufb01", "\U0001d41a",
]

NO_FRACTIONS = [
    (), (1,), (1, 2, 3), (1, 1, 1), (0,), (0, 0), (1, 0), (-1, 0), (1, -1), (0, -1), (1, -2), (-1, -2), (3, -4),
    (2, 4), (-2, 4), (2, 2), (-2, 2), (0, 2), (0, 3), (6, 3), (3, 6), (SIXTY, SIXTY), (0, SIXTY), (SIXTY, 3),
    (True, 1), (1, True), (False, 1), (1, False), (True, True), (True, 2), (0, True),
    (1.0, 1), (1, 1.0), (1, None), (None, 1), (None, None), ("1", 1), (1, "2"), ("1", "2"),
    ((1, 1), 1), (1, (1, 1)), ((1, 1), (1, 1)), ([1], 2), (1, [2]), (1, {}), (1j, 1), (float("nan"), 1),
    [1, 2], [1, 1], [], "1/2", "12", "ab", {1: 2}, {1: 1, 2: 2}, range(1, 3),
    (Stubborn(), 1), (1, Stubborn()), (Agreeing(), 1), (1, Agreeing()), (Agreeing(), Agreeing()),
]


def pair(value):
    return (value.numerator, value.denominator)


def name_of(number):
    """Names in alphabetical order: aaa, aab, .."""
    return LETTERS[number // 676 % 26] + LETTERS[number // 26 % 26] + LETTERS[number % 26]


def step_table(ties):
    """Every step of these ties, by its pair: from, to, cost."""
    table = {}
    for name, start, end, least, greatest in ties:
        if greatest is not None:
            table[(name, True)] = (start, end, Fraction(*greatest))
        if least is not None:
            table[(name, False)] = (end, start, -Fraction(*least))
    return table


def all_faces(ties):
    return sorted({face for tie in ties for face in tie[1:3]})


def walked(ties, face, chain):
    """The faces that a chain comes to, from this one on, and its sum; ValueError where it is no chain."""
    table = step_table(ties)
    faces = [face]
    total = Fraction(0)
    for mark in chain:
        if type(mark) is not tuple or mark not in table or type(mark[1]) is not bool:
            raise ValueError("no such step")
        source, target, cost = table[mark]
        if source != faces[-1]:
            raise ValueError("the step begins elsewhere")
        faces.append(target)
        total += cost
    return faces, total


def is_bad_ring(ties, ring):
    """Whether it is a list that is a ring of these ties, its sum below 0."""
    if type(ring) is not list or ring == [] or ring[0] not in step_table(ties):
        return False
    faces, total = walked(ties, step_table(ties)[ring[0]][0], ring)
    return faces[0] == faces[-1] and len(set(faces)) == len(faces) - 1 and total < 0


def least_sums(ties):
    """The least sum of a chain from a face to a face, for each two that have one; None where ties are impossible."""
    faces = all_faces(ties)
    sums = {(face, face): Fraction(0) for face in faces}
    for source, target, cost in step_table(ties).values():
        sums[source, target] = min(cost, sums.get((source, target), cost))
    for middle in faces:
        for one in faces:
            if (one, middle) not in sums:
                continue
            for other in faces:
                if (middle, other) in sums:
                    total = sums[one, middle] + sums[middle, other]
                    if (one, other) not in sums or total < sums[one, other]:
                        sums[one, other] = total
    if any(sums[face, face] < 0 for face in faces):
        return None
    return sums


def keeps(ties, placing):
    """Whether it is a list that is a placing of these ties, in fractions in lowest terms."""
    if type(placing) is not list or any(type(one) is not tuple or type(one[1]) is not tuple for one in placing):
        return False
    if [face for face, place in placing] != all_faces(ties):
        return False
    if any(pair(Fraction(*place)) != place for face, place in placing):
        return False
    places = {face: Fraction(*place) for face, place in placing}
    for name, start, end, least, greatest in ties:
        far = places[end] - places[start]
        if least is not None and far < Fraction(*least) or greatest is not None and far > Fraction(*greatest):
            return False
    return True


def some_ties(seed, faces, count, spread=6, bottoms=(1, 2, 3, 5)):
    """Ties of all kinds among so many faces, the same for the same seed; some possible, some not."""
    chance = random.Random(seed)
    ties = []
    for number in range(count):
        start, end = chance.sample(range(faces), 2)
        bounds = sorted(Fraction(chance.randint(-spread, spread), chance.choice(bottoms)) for turn in range(2))
        least, greatest = pair(bounds[0]), pair(bounds[1])
        kind = chance.randrange(8)
        if kind == 0:
            least, greatest = None, None
        elif kind in (1, 2):
            greatest = None
        elif kind in (3, 4):
            least = None
        elif kind == 5:
            greatest = least
        ties.append((name_of(number), name_of(start), name_of(end), least, greatest))
    return ties


def possible_ties(seed, faces, count):
    """Ties of all kinds that the same places keep, some of them just so."""
    chance = random.Random(seed)
    places = [Fraction(chance.randint(-20, 20), chance.choice((1, 2, 3))) for face in range(faces)]
    ties = []
    for name, start, end, least, greatest in some_ties(seed, faces, count):
        one, other = chance.sample(range(faces), 2)
        far = places[other] - places[one]
        if least is not None:
            least = pair(far - chance.choice((0, 0, 1, 4)))
        if greatest is not None:
            greatest = pair(far + chance.choice((0, 0, Fraction(1, 2), 3)))
        ties.append((name, name_of(one), name_of(other), least, greatest))
    return ties


def ways_between(parts, one, other):
    """The way by parts from a face to a face, sought by trying: a list of pairs (part, forward), or None."""
    def onward(face, passed):
        if face == other:
            return []
        for name, start, end, size, most, weight in parts:
            if name not in passed and face in (start, end):
                rest = onward(end if face == start else start, passed + [name])
                if rest is not None:
                    return [(name, face == start)] + rest
        return None

    return onward(one, [])


def plain_ways(parts, gaps):
    """For each gap the names of the parts on its way."""
    return {gap[0]: [name for name, forward in ways_between(parts, gap[1], gap[2])] for gap in gaps}


def plain_middles(parts, gaps):
    sizes = {part[0]: Fraction(*part[3]) for part in parts}
    return {gap[0]: sum((sizes[name] if forward else -sizes[name]
                         for name, forward in ways_between(parts, gap[1], gap[2])), Fraction(0)) for gap in gaps}


def plain_rooms(parts, gaps):
    middles = plain_middles(parts, gaps)
    return {gap[0]: min(Fraction(*gap[4]) - middles[gap[0]], middles[gap[0]] - Fraction(*gap[3])) for gap in gaps}


def keeps_all(parts, gaps, slacks):
    """Whether these slacks, Fractions by the parts' names, keep every most and every room."""
    ways = plain_ways(parts, gaps)
    rooms = plain_rooms(parts, gaps)
    return (all(0 <= slacks[part[0]] <= Fraction(*part[4]) for part in parts)
            and all(sum(slacks[name] for name in ways[gap[0]]) <= rooms[gap[0]] for gap in gaps))


def due_stop(parts, gaps, slacks, part):
    """What stops this part, as promise 18 says it; None where nothing does."""
    if slacks[part[0]] == Fraction(*part[4]):
        return ("most",)
    ways = plain_ways(parts, gaps)
    rooms = plain_rooms(parts, gaps)
    levels = {other[0]: slacks[other[0]] / other[5] for other in parts}
    for gap in gaps:
        way = ways[gap[0]]
        if (part[0] in way and sum(slacks[name] for name in way) == rooms[gap[0]]
                and max(levels[name] for name in way) == levels[part[0]]):
            return ("gap", gap[0])
    return None


def some_thing(seed, faces, gap_count, weights=(1, 1, 2, 3, 7), shares=(0, 1, 1, 2, 3, 5)):
    """Parts in trees, some in several pieces, and gaps of which none is too tight, the same for the same seed."""
    chance = random.Random(seed)
    parts = []
    places = {0: (0, Fraction(0))}
    for face in range(1, faces):
        joined = chance.randrange(face) if seed % 3 else face - 1
        if chance.randrange(7) == 0:
            places[face] = (face, Fraction(0))
            continue
        size = Fraction(chance.randint(-9, 9), chance.randint(1, 4))
        ends = [(joined, face), (face, joined)][chance.randrange(2)]
        places[face] = (places[joined][0], places[joined][1] + (size if ends[1] == face else -size))
        most = Fraction(chance.choice(shares), chance.randint(1, 3))
        parts.append((name_of(face), name_of(ends[0]), name_of(ends[1]), pair(size), pair(most),
                      chance.choice(weights)))
    chance.shuffle(parts)
    gaps = []
    for number in range(gap_count):
        one, other = chance.sample(range(faces), 2)
        if places[one][0] != places[other][0]:
            continue
        middle = places[other][1] - places[one][1]
        room = Fraction(chance.choice(shares + (4, 8)), chance.randint(1, 3))
        more = chance.choice((0, 0, Fraction(1, 7), 3))
        low, high = chance.choice([(middle - room, middle + room + more), (middle - room - more, middle + room)])
        gaps.append((name_of(number + 500), name_of(one), name_of(other), pair(low), pair(high)))
    return parts, gaps
