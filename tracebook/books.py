"""The book of a group: the ways of which all others are put together, and their rows of traces."""

from tracebook.classes import classes, turned
from tracebook.hearts import heart
from tracebook.ones import grown, ones, serving
from tracebook.tables import power
from tracebook.ways import Lifted
from tracebook.wheels import Wheel


class Book:
    def __init__(self, group, spokes, ways):
        self.group = group
        self.spokes = spokes
        self.classes = classes(group)
        self.ways = ways
        self.rows = [row_of(way) for way in ways]


def row_of(way):
    wheel = Wheel(way.spokes)
    return [wheel.lowest(way.trace(fellows[0])) for fellows in classes(way.group)]


def book_of(group, spokes=None):
    many = serving(group, spokes)
    return Book(group, many, sorted(ways_of(group, many), key=size_and_row))


def size_and_row(way):
    return (way.size, row_of(way))


# One-row ways of the heart that are one another turned lift to the same ways, so of those
# the least one alone is taken on.
def ways_of(group, spokes):
    found = heart(group)
    ways = []
    for marks in ones(group, found[0], spokes):
        if marks == min([marks_turned(group, found[0], marks, by) for by in range(group.many)]):
            ways.extend(ways_above(group, found[0], marks, found[1], spokes))
    return ways


def marks_turned(group, part, marks, by):
    mark = dict(zip(part, marks))
    return [mark[turned(group, thing, by)] for thing in part]


# Taken on to all things that keep the marks, and no further, one-row ways lift to ways that
# can't be taken apart. The heart and one power of the leading thing make up all such things.
def ways_above(group, part, marks, leading, spokes):
    keeper = least_keeper(group, part, marks, leading)
    taken = grown(group, part, marks, keeper, spokes)
    return [Lifted(group, taken[0], more, spokes) for more in taken[1]]


# The first power of the leading thing that keeps the marks.
def least_keeper(group, part, marks, leading):
    times = 1
    while marks_turned(group, part, marks, power(group, leading, times)) != marks:
        times = times + 1
    return power(group, leading, times)
