"""Things turned by one another: the classes of a group, and its middle."""

from tracebook.tables import product


def turned(group, thing, by):
    return product(group, [by, thing, group.backs[by]])


def classes(group):
    found = []
    seen = {}
    for thing in range(group.many):
        if thing not in seen:
            fellows = class_of(group, thing)
            found.append(fellows)
            for fellow in fellows:
                seen[fellow] = True
    return found


def class_of(group, thing):
    return sorted(set([turned(group, thing, by) for by in range(group.many)]))


def turner(group, thing, other):
    for by in range(group.many):
        if turned(group, thing, by) == other:
            return by
    return None


def middle(group):
    things = list(range(group.many))
    return [thing for thing in things if goes_with(group, thing, things)]


def goes_with(group, thing, others):
    for other in others:
        if group.rows[thing][other] != group.rows[other][thing]:
            return False
    return True
