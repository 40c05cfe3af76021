"""One-row ways of parts, told by marks."""

from tracebook.classes import turned
from tracebook.errors import BadMarks, BadWheel, NotKept, NotSteady, NoWay
from tracebook.parts import check_part, led_out, mixed
from tracebook.tables import power, turns
from tracebook.wheels import check_spokes


# The number of spokes that is meant, or a refusal where it doesn't serve the group.
def serving(group, spokes):
    least = turns(group)
    if spokes is None:
        return least
    check_spokes(spokes)
    if spokes % least != 0:
        raise BadWheel("the number of spokes is the group's turns taken once or more often")
    return spokes


def check_marks(part, marks, spokes):
    if len(marks) != len(part):
        raise BadMarks("there is one mark for each thing of the part")
    if any([mark < 0 or mark >= spokes for mark in marks]):
        raise BadMarks("a mark is a number from 0 to one less than the number of spokes")


def first_break(group, part, marks, spokes=None):
    check_part(group, part)
    many = serving(group, spokes)
    check_marks(part, marks, many)
    mark = dict(zip(part, marks))
    for one in part:
        for other in part:
            if mark[group.rows[one][other]] != (mark[one] + mark[other]) % many:
                return (one, other)
    return None


def check_way(group, part, marks, spokes):
    found = first_break(group, part, marks, spokes)
    if found is not None:
        raise NoWay(found[0], found[1])


def check_led(group, part, by):
    thing = led_out(group, part, by)
    if thing is not None:
        raise NotSteady(by, thing)


def check_kept(group, part, marks, by):
    mark = dict(zip(part, marks))
    for thing in part:
        if mark[thing] != mark[turned(group, thing, by)]:
            raise NotKept(thing)


def grown(group, part, marks, thing, spokes=None):
    check_way(group, part, marks, spokes)
    check_led(group, part, thing)
    check_kept(group, part, marks, thing)
    return taken_on(group, part, marks, thing, serving(group, spokes))


# What grown tells, for a thing that leads nothing out and keeps every mark: then each thing
# of the greater part is once a thing of the part times a power of this thing below steps.
def taken_on(group, part, marks, thing, spokes):
    mark = dict(zip(part, marks))
    steps = steps_into(group, part, thing)
    aim = mark[power(group, thing, steps)]
    origins = {}
    for many in range(steps):
        for base in part:
            origins[group.rows[base][power(group, thing, many)]] = (mark[base], many)
    greater = sorted(origins)
    found = []
    # All that is asked of the thing's own mark is that, taken steps times, it comes to the aim.
    for own in range(spokes):
        if steps * own % spokes == aim:
            found.append([(origins[one][0] + origins[one][1] * own) % spokes for one in greater])
    return (greater, sorted(found))


# The least number, 1 or more, for which the thing to that number is in the part.
def steps_into(group, part, thing):
    steps = 1
    while power(group, thing, steps) not in part:
        steps = steps + 1
    return steps


def ones(group, part, spokes=None):
    check_part(group, part)
    many = serving(group, spokes)
    # By every one-row way the mixed part has noughts alone. A part between it and the whole
    # one is steady within that, and its marks are kept, so that each can be taken on.
    reached = mixed(group, part)
    found = [[0] * len(reached)]
    for thing in part:
        if thing not in reached:
            taken = [taken_on(group, reached, marks, thing, many) for marks in found]
            reached = taken[0][0]
            found = joined([ways for greater, ways in taken])
    return sorted(found)


def joined(lists):
    found = []
    for some in lists:
        found.extend(some)
    return found
