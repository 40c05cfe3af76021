"""Tables for the tests, and plain second tellings of what the program should answer."""

import functools
import itertools

from tracebook.errors import BookError
from tracebook.tables import group_of
from tracebook.wheels import Wheel

GREAT = 10 ** 599 + 123456789


def cyclic(many):
    return [[(a + b) % many for b in range(many)] for a in range(many)]


def two_step(first, second, twist, carry):
    """The group of a and t with a to first = 1, t to second = a to carry, t.a = (a to twist).t.

    Thing i + first * j is (a to i).(t to j).
    """
    things = [(i, j) for j in range(second) for i in range(first)]

    def put(one, other):
        over, t_part = divmod(one[1] + other[1], second)
        a_part = (one[0] + twist ** one[1] * other[0] + over * carry) % first
        return a_part + first * t_part

    return [[put(one, other) for other in things] for one in things]


def of_permutations(makers):
    """The table of all products of some permutations, numbered in the order of tuples."""
    found = {tuple(range(len(makers[0])))}
    while True:
        more = found | {tuple(p[k] for k in q) for p in found for q in makers}
        if more == found:
            break
        found = more
    things = sorted(found)
    number = {p: k for k, p in enumerate(things)}
    return [[number[tuple(p[k] for k in q)] for q in things] for p in things]


def doubled(table, other):
    """The table of pairs, one thing of each of two tables."""
    pairs = [(a, b) for a in range(len(table)) for b in range(len(other))]
    return [[table[a][c] * len(other) + other[b][d] for c, d in pairs] for a, b in pairs]


def of_tuples(sizes, put):
    """The table of all tuples with entries below these sizes; put tells a product, still to be brought below them."""
    things = list(itertools.product(*[range(size) for size in sizes]))
    number = {thing: k for k, thing in enumerate(things)}

    def product(one, other):
        return number[tuple(entry % size for entry, size in zip(put(one, other), sizes))]

    return [[product(one, other) for other in things] for one in things]


def abelian(*sizes):
    return of_tuples(sizes, lambda a, b: [x + y for x, y in zip(a, b)])


def dihedral(sides):
    return two_step(sides, 2, sides - 1, 0)


def renamed(table, names):
    """The same table with thing a called names[a]."""
    many = len(table)
    rows = [[None] * many for a in range(many)]
    for a in range(many):
        for b in range(many):
            rows[names[a]][names[b]] = names[table[a][b]]
    return rows


def shuffled(table):
    """The same table under names by which thing 0 is the last one, and no order is kept."""
    many = len(table)
    step = 7 if many % 5 == 0 else 5
    return renamed(table, [(many - 1 + step * a) % many for a in range(many)])


SYMMETRIC_3 = two_step(3, 2, 2, 0)
SQUARE = two_step(4, 2, 3, 0)
QUATERNION = two_step(4, 2, 3, 2)
EVEN_4 = of_permutations([(1, 2, 0, 3), (1, 0, 3, 2)])

PLAIN_TABLES = {
    "one thing": cyclic(1),
    "cyclic 2": cyclic(2),
    "cyclic 6": cyclic(6),
    "cyclic 12": cyclic(12),
    "cyclic 23": cyclic(23),
    "four with all squares one": doubled(cyclic(2), cyclic(2)),
    "sixteen with all squares one": doubled(doubled(cyclic(2), cyclic(2)), doubled(cyclic(2), cyclic(2))),
    "symmetric 3": SYMMETRIC_3,
    "square": SQUARE,
    "quaternion": QUATERNION,
    "even 4": EVEN_4,
    "twelve, dicyclic": two_step(6, 2, 5, 3),
    "sixteen, modular": two_step(8, 2, 5, 0),
    "eighteen": doubled(SYMMETRIC_3, cyclic(3)),
    "twenty": two_step(5, 4, 2, 0),
    "twenty-one": two_step(7, 3, 2, 0),
    "twenty-two": two_step(11, 2, 10, 0),
}

TABLES = dict(PLAIN_TABLES)
TABLES.update({name + ", shuffled": shuffled(table) for name, table in PLAIN_TABLES.items()})


# Each group of at most 23 things under one of its tables: all 59 of them.
EVERY_TABLE = {f"cyclic {many}": cyclic(many) for many in range(1, 24)}
EVERY_TABLE.update({
    "x".join(map(str, sizes)): abelian(*sizes)
    for sizes in [(2, 2), (2, 4), (2, 2, 2), (3, 3), (2, 6), (2, 8), (4, 4), (2, 2, 4), (2, 2, 2, 2), (3, 6), (2, 10)]
})
EVERY_TABLE.update({f"dihedral {sides}": dihedral(sides) for sides in range(3, 12)})
EVERY_TABLE.update({
    "quaternion": QUATERNION,
    "dicyclic 12": two_step(6, 2, 5, 3),
    "even 4": EVEN_4,
    "square x 2": doubled(SQUARE, cyclic(2)),
    "quaternion x 2": doubled(QUATERNION, cyclic(2)),
    "square and 4 with one middle": of_tuples(
        (4, 2, 2), lambda a, b: (a[0] + b[0] + 2 * a[2] * b[1], a[1] + b[1], a[2] + b[2])
    ),
    "2x2 turned by 4": of_tuples((4, 2, 2), lambda a, b: (a[0] + b[0], a[1] + b[1] + a[2] * b[0], a[2] + b[2])),
    "4 turned by 4": two_step(4, 4, 3, 0),
    "modular 16": two_step(8, 2, 5, 0),
    "half dihedral 16": two_step(8, 2, 3, 0),
    "quaternion 16": two_step(8, 2, 7, 4),
    "symmetric 3 x 3": doubled(SYMMETRIC_3, cyclic(3)),
    "3x3 turned over": of_tuples(
        (3, 3, 2), lambda a, b: (a[0] + (-1) ** a[2] * b[0], a[1] + (-1) ** a[2] * b[1], a[2] + b[2])
    ),
    "dicyclic 20": two_step(10, 2, 9, 5),
    "five turned by 4": two_step(5, 4, 2, 0),
    "seven turned by 3": two_step(7, 3, 2, 0),
})


def groups():
    """Each sample's name, the group made of it, and its table."""
    return [(name, group_of(table), table) for name, table in TABLES.items()]


def every_group():
    """Like groups, for each group of at most 23 things, twice: under a plain and under a shuffled table."""
    plain = list(EVERY_TABLE.items())
    tables = plain + [(name + ", shuffled", shuffled(table)) for name, table in plain]
    return [(name, group_of(table), table) for name, table in tables]


def outcome(call, *arguments):
    """What a call tells, or the name of its refusal and the fields of that."""
    try:
        return call(*arguments)
    except BookError as refusal:
        return (refusal.__class__.__name__, vars(refusal))


def unit_in(table):
    return next(e for e in range(len(table)) if table[e] == list(range(len(table))))


def back_in(table, thing):
    return table[thing].index(unit_in(table))


def turned_in(table, thing, by):
    return table[table[by][thing]][back_in(table, by)]


def least_part(table, some):
    """The least part with some things, as a rising list."""
    found = {unit_in(table), *some}
    while True:
        more = found | {table[a][b] for a in found for b in found}
        if more == found:
            return sorted(found)
        found = more


def is_part(table, some):
    inside = set(some)
    return (
        inside != set()
        and some == sorted(inside)
        and inside <= set(range(len(table)))
        and inside >= {table[a][b] for a in some for b in some}
    )


def parts(table):
    """All parts."""
    return [list(part) for part in all_parts(tuple(map(tuple, table)))]


@functools.lru_cache(maxsize=None)
def all_parts(table):
    table = [list(row) for row in table]
    found = {tuple(least_part(table, []))}
    while True:
        more = found | {tuple(least_part(table, [*part, a])) for part in found for a in range(len(table))}
        if more == found:
            return sorted(found)
        found = more


def mixed_part(table, part):
    return least_part(table, {table[table[a][b]][back_in(table, table[b][a])] for a in part for b in part})


def first_lead_out(table, part):
    """The first t and h such that h turned by t is not in the part, or None."""
    for t in range(len(table)):
        for h in part:
            if turned_in(table, h, t) not in part:
                return (t, h)
    return None


def first_fault(table, part, marks, spokes):
    """The first two things of the part at which marks are no one-row way, or None."""
    mark = dict(zip(part, marks))
    for a, b in itertools.product(part, repeat=2):
        if (mark[table[a][b]] - mark[a] - mark[b]) % spokes:
            return (a, b)
    return None


def one_row_ways(table, part, spokes):
    """All one-row ways of a part, found by trying all marks of some things of which the others are products."""
    makers = []
    while least_part(table, makers) != part:
        makers.append(next(a for a in part if a not in least_part(table, makers)))
    found = []
    for marks in itertools.product(range(spokes), repeat=len(makers)):
        mark = {unit_in(table): 0}
        while len(mark) < len(part):
            for a in list(mark):
                for maker, step in zip(makers, marks):
                    mark.setdefault(table[a][maker], (mark[a] + step) % spokes)
        way = [mark[a] for a in part]
        if first_fault(table, part, way, spokes) is None:
            found.append(way)
    return sorted(found)


def no_parts(table):
    """Lists of every sort that are no parts of a group with more than three things."""
    many = len(table)
    full = list(range(many))
    unit = unit_in(table)
    other = next(a for a in full if a != unit and table[a][a] != unit)
    return {
        "empty": [],
        "the unit twice": [unit, unit],
        "all things, falling": full[::-1],
        "all things, two exchanged": [1, 0] + full[2:],
        "all things, the last one twice": full + [many - 1],
        "all things twice": full + full,
        "the unit 240 times": [unit] * 240,
        "-1 alone": [-1],
        "-1 ahead of all things": [-1] + full,
        "one number too great": [many],
        "all things and one number too great": full + [many],
        "numbers up to 239": list(range(240)),
        "numbers far below nought": [-GREAT, unit],
        "a very great number": [unit, GREAT],
        "very great numbers alone": [GREAT, GREAT + 1],
        "no unit": [a for a in full if a != unit],
        "one thing that is not the unit": [other],
        "a square outside": sorted([unit, other]),
        "all things but one": [a for a in full if a != other],
    }


def greatest(least):
    """The greatest number of spokes that serves a group with these turns."""
    return 60 // least * least


def bad_marks(part, spokes):
    """Lists that are no marks of a part."""
    many = len(part)
    yield []
    yield [0] * (many + 1)
    yield [0] * 240
    if many > 1:
        yield [0] * (many - 1)
    for place in {0, many // 2, many - 1}:
        for number in (-1, -spokes, spokes, spokes + 1, GREAT, -GREAT):
            marks = [0] * many
            marks[place] = number
            yield marks


def sides_in(table, part):
    return sorted({tuple(sorted(table[a][h] for h in part)) for a in range(len(table))})


def splits(table, part):
    """For each thing y.h, y being the carrier of a side and h in the part: the side's number and h's place."""
    sides = sides_in(table, part)
    return {table[side[0]][h]: (number, k) for number, side in enumerate(sides) for k, h in enumerate(part)}


def inner_table(table, part):
    return [[part.index(table[a][b]) for b in part] for a in part]


@functools.lru_cache(maxsize=None)
def wheel_of(spokes):
    return Wheel(spokes)


def sum_with_backed(one, other):
    """The sum, over all things, of the trace by one way times the backed trace by another, as a whole number."""
    counts = [0] * one.spokes
    for thing in range(one.group.many):
        backed = [(k, many) for k, many in enumerate(other.trace(thing)) if many]
        for j, times in enumerate(one.trace(thing)):
            for k, many in backed if times else ():
                counts[(j - k) % one.spokes] += times * many
    wheel = wheel_of(one.spokes)
    return wheel.whole(wheel.lowest(counts))


def verdict(table):
    """What group_of should answer: the name of a refusal and its fields, or "group", unit and backs."""
    many = len(table)
    if many not in range(1, 24) or {len(row) for row in table} != {many}:
        return ("BadSize",)
    things = range(many)
    pairs = list(itertools.product(things, repeat=2))
    for a, b in pairs:
        if not 0 <= table[a][b] < many:
            return ("Stranger", a, b)
    units = [e for e in things if all(table[e][a] == a == table[a][e] for a in things)]
    if not units:
        return ("NoUnit",)
    unit = units[0]
    backs = [[b for b in things if table[a][b] == unit == table[b][a]] for a in things]
    if [] in backs:
        return ("NoBack", backs.index([]))
    for a, b, c in itertools.product(things, repeat=3):
        if table[table[a][b]][c] != table[a][table[b][c]]:
            return ("NotTogether", a, b, c)
    return ("group", unit, [some[0] for some in backs])
