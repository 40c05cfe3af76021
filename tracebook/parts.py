"""Parts of a group: how they come of a list, their sides, and the groups made of them."""

from tracebook.classes import turned
from tracebook.errors import NoPart, NotSteady
from tracebook.tables import group_of, product


def check_part(group, some):
    if not is_part(group, some):
        raise NoPart("a part is a rising list of things with all their products")


def is_part(group, some):
    # Whether all are things is asked first: what is no thing has no product.
    return len(some) > 0 and all_things(group, some) and rises(some) and holds_products(group, some)


def all_things(group, some):
    return all([number >= 0 and number < group.many for number in some])


def rises(some):
    return all([some[place] < some[place + 1] for place in range(len(some) - 1)])


def holds_products(group, some):
    for one in some:
        for other in some:
            if group.rows[one][other] not in some:
                return False
    return True


def closure(group, some):
    # Shorter words are taken on first, so each is as short as can be and has fewer things
    # than the part. Products are enough: a thing's back is one of its powers.
    words = {group.unit: []}
    reached = [group.unit]
    place = 0
    while place < len(reached):
        for thing in some:
            further = group.rows[reached[place]][thing]
            if further not in words:
                words[further] = words[reached[place]] + [thing]
                reached.append(further)
        place = place + 1
    part = sorted(reached)
    return (part, [words[thing] for thing in part])


def mixed(group, part):
    check_part(group, part)
    found = []
    for one in part:
        for other in part:
            found.append(product(group, [one, other, group.backs[one], group.backs[other]]))
    return closure(group, sorted(set(found)))[0]


def sides(group, part):
    check_part(group, part)
    by_thing = [side_of(group, part, thing) for thing in range(group.many)]
    # A side comes up once for each of its things; it is told where its carrier stands.
    return [side for thing, side in enumerate(by_thing) if side[0] == thing]


def side_of(group, part, thing):
    return sorted([group.rows[thing][other] for other in part])


def carriers_of(group, part):
    return [side[0] for side in sides(group, part)]


def way_out(group, part):
    check_part(group, part)
    for by in range(group.many):
        thing = led_out(group, part, by)
        if thing is not None:
            return (by, thing)
    return None


# The least thing of the part that is led out, or None.
def led_out(group, part, by):
    for thing in part:
        if turned(group, thing, by) not in part:
            return thing
    return None


def folded(group, part):
    found = way_out(group, part)
    if found is not None:
        raise NotSteady(found[0], found[1])
    carriers = carriers_of(group, part)
    numbers = [carriers.index(side_of(group, part, thing)[0]) for thing in range(group.many)]
    # The part is steady, so any two things of two sides tell the same product of sides.
    rows = [[numbers[group.rows[one][other]] for other in carriers] for one in carriers]
    return (group_of(rows), numbers)


def inner(group, part):
    check_part(group, part)
    return group_of([[part.index(group.rows[one][other]) for other in part] for one in part])
