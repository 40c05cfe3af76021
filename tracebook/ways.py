"""Ways of a group: what each thing does to places, with a spoke for each."""

from tracebook.errors import OtherGroup, OtherWheel, TooGreat
from tracebook.ones import check_way, serving
from tracebook.parts import carriers_of, inner

MOST_PLACES = 60


# Of two ways, or of a way and a book.
def check_alike(one, other):
    if one.group.rows != other.group.rows:
        raise OtherGroup("the two are of groups with unlike tables")
    if one.spokes != other.spokes:
        raise OtherWheel("the two have unlike numbers of spokes")


def check_places(many):
    if many > MOST_PLACES:
        raise TooGreat("a way has at most 60 places")


class Way:
    # The deeds come in worked out, for each thing what it does to the places: so nothing that is
    # asked of a way goes back to the ways that it was made of.
    def __init__(self, group, spokes, deeds):
        self.group = group
        self.spokes = spokes
        self.size = len(deeds[0])
        self.deeds = deeds

    def moves(self, thing):
        return list(self.deeds[thing])

    def trace(self, thing):
        counts = [0] * self.spokes
        for place, move in enumerate(self.deeds[thing]):
            if move[0] == place:
                counts[move[1]] = counts[move[1]] + 1
        return counts


class Regular(Way):
    def __init__(self, group, spokes=None):
        deeds = [[(place, 0) for place in row] for row in group.rows]
        Way.__init__(self, group, serving(group, spokes), deeds)


class Lifted(Way):
    def __init__(self, group, part, marks, spokes=None):
        check_way(group, part, marks, spokes)
        self.part = list(part)
        self.marks = list(marks)
        deeds = [[(number, marks[k]) for number, k in moves] for moves in side_moves(group, part)]
        Way.__init__(self, group, serving(group, spokes), deeds)


# For each thing a, and for the carrier x of each side: the number of the side in which a.x lies,
# and at which place of the part the thing h stands with which that side's carrier makes a.x.
def side_moves(group, part):
    carriers = carriers_of(group, part)
    found = {}
    for number, carrier in enumerate(carriers):
        for k, thing in enumerate(part):
            found[group.rows[carrier][thing]] = (number, k)
    return [[found[row[carrier]] for carrier in carriers] for row in group.rows]


class Beside(Way):
    def __init__(self, one, other):
        check_alike(one, other)
        check_places(one.size + other.size)
        deeds = [one.moves(thing) + behind(other.moves(thing), one.size) for thing in range(one.group.many)]
        Way.__init__(self, one.group, one.spokes, deeds)


# The same moves of places that stand behind as many others.
def behind(moves, many):
    return [(many + place, spoke) for place, spoke in moves]


class Crossed(Way):
    def __init__(self, one, other):
        check_alike(one, other)
        check_places(one.size * other.size)
        deeds = [paired(one.moves(thing), other.moves(thing), one.spokes) for thing in range(one.group.many)]
        Way.__init__(self, one.group, one.spokes, deeds)


def paired(moves, others, spokes):
    found = []
    for place, spoke in moves:
        for further, more in others:
            found.append((place * len(others) + further, (spoke + more) % spokes))
    return found


class Backed(Way):
    def __init__(self, way):
        deeds = [backed_moves(way.moves(thing), way.spokes) for thing in range(way.group.many)]
        Way.__init__(self, way.group, way.spokes, deeds)


def backed_moves(moves, spokes):
    return [(place, (spokes - spoke) % spokes) for place, spoke in moves]


class Within(Way):
    def __init__(self, way, part):
        Way.__init__(self, inner(way.group, part), way.spokes, [way.moves(thing) for thing in part])


class Raised(Way):
    def __init__(self, group, part, way):
        if way.group.rows != inner(group, part).rows:
            raise OtherGroup("the way is not one of the group that inner tells for the part")
        spokes = serving(group, way.spokes)
        check_places(group.many // len(part) * way.size)
        deeds = [raised_moves(moves, way) for moves in side_moves(group, part)]
        Way.__init__(self, group, spokes, deeds)


# What a thing does to all places, where these are its moves of the sides.
def raised_moves(moves, way):
    found = []
    for number, k in moves:
        found.extend(behind(way.moves(k), number * way.size))
    return found
