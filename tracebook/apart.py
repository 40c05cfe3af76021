"""Ways taken apart into the ways of a book."""

from tracebook.books import row_of
from tracebook.parts import carriers_of
from tracebook.ways import check_alike
from tracebook.wheels import Wheel


def shares(book, way):
    check_alike(way, book)
    wheel = Wheel(book.spokes)
    traces = row_of(way)
    return [share(book, wheel, traces, row) for row in book.rows]


def share(book, wheel, traces, row):
    total = wheel.lowest([])
    for fellows, one, other in zip(book.classes, traces, row):
        each = wheel.times(one, wheel.backed(other))
        total = wheel.plus(total, [len(fellows) * number for number in each])
    return wheel.whole(total) // book.group.many


def taken_apart(book, way):
    check_alike(way, book)
    copies = []
    for number, lifted in enumerate(book.ways):
        for column in kept_columns(lifted, way):
            copies.append((number, spread(lifted, way, column)))
    return copies


# A copy of a lifted way is known by one column that each thing of the part only turns, by its
# mark. For each lot of places to which the part leads some one place there is one such column
# or none, and all others are sums of these, which have no place in common.
def kept_columns(lifted, way):
    moves = [way.moves(thing) for thing in lifted.part]
    found = []
    for place in range(way.size):
        led = [move[place] for move in moves]
        if place == min([reached for reached, spoke in led]):
            column = kept_column(led, lifted.marks, way)
            if column is not None:
                found.append(column)
    return found


# The column with spoke 0 at the place that is so led by the things with these marks. None where
# two of them lead it to one place and ask for unlike spokes there.
def kept_column(led, marks, way):
    column = [None] * way.size
    for move, mark in zip(led, marks):
        spoke = (move[1] - mark) % way.spokes
        if column[move[0]] is not None and column[move[0]] != spoke:
            return None
        column[move[0]] = spoke
    return column


# The columns of a copy: what the carrier of each place of the lifted way makes of the kept column.
def spread(lifted, way, column):
    carriers = carriers_of(lifted.group, lifted.part)
    return [moved_column(way.moves(carrier), column, way.spokes) for carrier in carriers]


def moved_column(moves, column, spokes):
    found = [None] * len(column)
    for move, spoke in zip(moves, column):
        if spoke is not None:
            found[move[0]] = (spoke + move[1]) % spokes
    return found
