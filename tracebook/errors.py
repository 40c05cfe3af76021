"""The refusals: one class for each, all straight beneath BookError."""

# No class here calls its base's __init__: the values that a refusal is made with
# are kept by Python as they are, so that it can be copied and shown with its fields.


class BookError(ValueError):
    pass


# A table has no row, too many rows, or a row of another length.
class BadSize(BookError):
    pass


# A number of a table is no thing.
class Stranger(BookError):
    def __init__(self, row, column):
        self.row = row
        self.column = column


# No thing of a table leaves all things as they are.
class NoUnit(BookError):
    pass


# A thing of a table has no back.
class NoBack(BookError):
    def __init__(self, thing):
        self.thing = thing


# Three things give two products, by which two are put together first.
class NotTogether(BookError):
    def __init__(self, one, two, three):
        self.one = one
        self.two = two
        self.three = three


# A list is no part of the group.
class NoPart(BookError):
    pass


# A turner leads a thing out of a part.
class NotSteady(BookError):
    def __init__(self, turner, thing):
        self.turner = turner
        self.thing = thing


# A number of spokes makes no wheel, or doesn't serve the group.
class BadWheel(BookError):
    pass


# A number has a divisor in common with the number of spokes.
class NoMove(BookError):
    pass


# A list has another length than its part, or a number that is no spoke.
class BadMarks(BookError):
    pass


# Marks are no one-row way: they break at the product of two things.
class NoWay(BookError):
    def __init__(self, one, two):
        self.one = one
        self.two = two


# A thing has another mark than it has when it is turned.
class NotKept(BookError):
    def __init__(self, thing):
        self.thing = thing


# Two groups that should be one have unlike tables.
class OtherGroup(BookError):
    pass


# Two numbers of spokes that should be one are unlike.
class OtherWheel(BookError):
    pass


# A way would have too many places.
class TooGreat(BookError):
    pass
