"""Tables for the tests, and a plain second telling of what group_of should answer."""

import itertools

from tracebook.tables import group_of


def cyclic(many):
    return [[(a + b) % many for b in range(many)] for a in range(many)]


def two_step(first, second, twist, carry):
    """The group of a and t with a to first = 1, t to second = a to carry, t.a = (a to twist).t.

    Thing i + first * j is (a to i).(t to j).
    """
    things = [(i, j) for j in range(second) for i in range(first)]

    def put(one, other):
        over, t_part = divmod(one[1] + other[1], second)
        a_part = (one[0] + twist ** one[1] * other[0] + over * carry) % first
        return a_part + first * t_part

    return [[put(one, other) for other in things] for one in things]


def of_permutations(makers):
    """The table of all products of some permutations, numbered in the order of tuples."""
    found = {tuple(range(len(makers[0])))}
    while True:
        more = found | {tuple(p[k] for k in q) for p in found for q in makers}
        if more == found:
            break
        found = more
    things = sorted(found)
    number = {p: k for k, p in enumerate(things)}
    return [[number[tuple(p[k] for k in q)] for q in things] for p in things]


def doubled(table, other):
    """The table of pairs, one thing of each of two tables."""
    pairs = [(a, b) for a in range(len(table)) for b in range(len(other))]
    return [[table[a][c] * len(other) + other[b][d] for c, d in pairs] for a, b in pairs]


def renamed(table, names):
    """The same table with thing a called names[a]."""
    many = len(table)
    rows = [[None] * many for a in range(many)]
    for a in range(many):
        for b in range(many):
            rows[names[a]][names[b]] = names[table[a][b]]
    return rows


def shuffled(table):
    """The same table under names by which thing 0 is the last one, and no order is kept."""
    many = len(table)
    step = 7 if many % 5 == 0 else 5
    return renamed(table, [(many - 1 + step * a) % many for a in range(many)])


SYMMETRIC_3 = two_step(3, 2, 2, 0)
SQUARE = two_step(4, 2, 3, 0)
QUATERNION = two_step(4, 2, 3, 2)
EVEN_4 = of_permutations([(1, 2, 0, 3), (1, 0, 3, 2)])

PLAIN_TABLES = {
    "one thing": cyclic(1),
    "cyclic 2": cyclic(2),
    "cyclic 6": cyclic(6),
    "cyclic 12": cyclic(12),
    "cyclic 23": cyclic(23),
    "four with all squares one": doubled(cyclic(2), cyclic(2)),
    "sixteen with all squares one": doubled(doubled(cyclic(2), cyclic(2)), doubled(cyclic(2), cyclic(2))),
    "symmetric 3": SYMMETRIC_3,
    "square": SQUARE,
    "quaternion": QUATERNION,
    "even 4": EVEN_4,
    "twelve, dicyclic": two_step(6, 2, 5, 3),
    "sixteen, modular": two_step(8, 2, 5, 0),
    "eighteen": doubled(SYMMETRIC_3, cyclic(3)),
    "twenty": two_step(5, 4, 2, 0),
    "twenty-one": two_step(7, 3, 2, 0),
    "twenty-two": two_step(11, 2, 10, 0),
}

TABLES = dict(PLAIN_TABLES)
TABLES.update({name + ", shuffled": shuffled(table) for name, table in PLAIN_TABLES.items()})


def groups():
    """Each sample's name, the group made of it, and its table."""
    return [(name, group_of(table), table) for name, table in TABLES.items()]


def verdict(table):
    """What group_of should answer: the name of a refusal and its fields, or "group", unit and backs."""
    many = len(table)
    if many not in range(1, 24) or {len(row) for row in table} != {many}:
        return ("BadSize",)
    things = range(many)
    pairs = list(itertools.product(things, repeat=2))
    for a, b in pairs:
        if not 0 <= table[a][b] < many:
            return ("Stranger", a, b)
    units = [e for e in things if all(table[e][a] == a == table[a][e] for a in things)]
    if not units:
        return ("NoUnit",)
    unit = units[0]
    backs = [[b for b in things if table[a][b] == unit == table[b][a]] for a in things]
    if [] in backs:
        return ("NoBack", backs.index([]))
    for a, b, c in itertools.product(things, repeat=3):
        if table[table[a][b]][c] != table[a][table[b][c]]:
            return ("NotTogether", a, b, c)
    return ("group", unit, [some[0] for some in backs])
