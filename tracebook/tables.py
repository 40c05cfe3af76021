"""Tables, the groups that are made of them, and what comes of putting things together."""

from tracebook.errors import BadSize, NoBack, NotTogether, NoUnit, Stranger

MOST_THINGS = 23


class Group:
    def __init__(self, rows, unit, backs):
        self.many = len(rows)
        self.rows = rows
        self.unit = unit
        self.backs = backs


def group_of(table):
    # The group reads its own copy, for the table may be changed behind the call.
    rows = [list(row) for row in table]
    check_size(rows)
    check_strangers(rows)
    unit = unit_of(rows)
    backs = backs_of(rows, unit)
    check_together(rows)
    return Group(rows, unit, backs)


def check_size(rows):
    many = len(rows)
    if many < 1 or many > MOST_THINGS:
        raise BadSize("a table has from 1 to 23 rows")
    for row in rows:
        if len(row) != many:
            raise BadSize("a row has as many numbers as the table has rows")


def check_strangers(rows):
    many = len(rows)
    for row in range(many):
        for column in range(many):
            if rows[row][column] < 0 or rows[row][column] >= many:
                raise Stranger(row, column)


def unit_of(rows):
    for thing in range(len(rows)):
        if leaves_all(rows, thing):
            return thing
    raise NoUnit("no thing leaves every thing as it is")


def leaves_all(rows, thing):
    for other in range(len(rows)):
        if rows[thing][other] != other or rows[other][thing] != other:
            return False
    return True


def backs_of(rows, unit):
    return [back_of(rows, unit, thing) for thing in range(len(rows))]


def back_of(rows, unit, thing):
    for other in range(len(rows)):
        if rows[thing][other] == unit and rows[other][thing] == unit:
            return other
    raise NoBack(thing)


def check_together(rows):
    many = len(rows)
    for one in range(many):
        for two in range(many):
            for three in range(many):
                if rows[rows[one][two]][three] != rows[one][rows[two][three]]:
                    raise NotTogether(one, two, three)


def product(group, things):
    reached = group.unit
    for thing in things:
        reached = group.rows[reached][thing]
    return reached


def power(group, thing, many):
    # Powers come round after the thing's order, so what is left of many by it is
    # enough, however great many is; below nought too, for what is left is never below.
    left = many % order(group, thing)
    return product(group, [thing] * left)


def order(group, thing):
    many = 1
    reached = thing
    while reached != group.unit:
        reached = group.rows[reached][thing]
        many = many + 1
    return many


def turns(group):
    orders = [order(group, thing) for thing in range(group.many)]
    many = 1
    while any([many % times != 0 for times in orders]):
        many = many + 1
    return many
