"""The heart of a group."""

from tracebook.classes import goes_with
from tracebook.parts import closure, mixed


def heart(group):
    found = mixed(group, list(range(group.many)))
    for thing in range(group.many):
        if goes_with(group, thing, found):
            found = closure(group, found + [thing])[0]
    return (found, least_leading(group, found))


def least_leading(group, part):
    # The part is steady, so all that comes of it and the thing is a thing of it times a power.
    for thing in range(group.many):
        if len(closure(group, part + [thing])[0]) == group.many:
            return thing
    return None
