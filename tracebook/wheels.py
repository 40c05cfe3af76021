"""Wheels: roots of one are spokes, and sums of them are lists of whole numbers."""

from tracebook.errors import BadWheel, NoMove

MOST_SPOKES = 60


def check_spokes(many):
    if many < 1 or many > MOST_SPOKES:
        raise BadWheel("a wheel has from 1 to 60 spokes")


def circle(many):
    check_spokes(many)
    found = {}
    for divisor in range(1, many + 1):
        if many % divisor == 0:
            found[divisor] = next_circle(divisor, found)
    return found[many]


# The circles of all divisors below this number are among those found so far.
def next_circle(many, found):
    left = [-1] + [0] * (many - 1) + [1]
    for divisor in found:
        if many % divisor == 0:
            left = divided(left, found[divisor])[0]
    return left


# What comes of the division, and what is left. The last number of the divider is 1,
# as every circle's is, so all numbers stay whole.
def divided(polynomial, divider):
    degree = len(divider) - 1
    left = list(polynomial)
    taken = []
    while len(left) > degree:
        times = left.pop()
        taken.append(times)
        start = len(left) - degree
        for place in range(degree):
            left[start + place] = left[start + place] - times * divider[place]
    return (list(reversed(taken)), left)


class Wheel:
    def __init__(self, many):
        self.rim = circle(many)
        self.spokes = many
        self.size = len(self.rim) - 1

    def lowest(self, counts):
        return self.laid(counts, 1, 0)

    # The lowest form of the sum in which the number at place k counts spoke start + step times k.
    def laid(self, counts, step, start):
        totals = [0] * self.spokes
        for k, many in enumerate(counts):
            place = (start + step * k) % self.spokes
            totals[place] = totals[place] + many
        return divided(totals, self.rim)[1]

    def spoke(self, k):
        return self.laid([1], 1, k)

    def plus(self, one, other):
        return [number + more for number, more in zip(one, other)]

    def times(self, one, other):
        totals = [0] * (len(one) + len(other))
        for j, number in enumerate(one):
            for k, more in enumerate(other):
                totals[j + k] = totals[j + k] + number * more
        return self.lowest(totals)

    def turned(self, one, k):
        return self.laid(one, 1, k)

    def backed(self, one):
        return self.laid(one, -1, 0)

    def moved(self, one, j):
        for divisor in range(2, self.spokes + 1):
            if self.spokes % divisor == 0 and j % divisor == 0:
                raise NoMove("the move has a divisor in common with the number of spokes")
        return self.laid(one, j, 0)

    def wider(self, one, many):
        # A wheel is refused just where this is: there is a spoke at least, so a number
        # below 1 times the spokes is below 1 too.
        return Wheel(self.spokes * many).laid(one, many, 0)

    def whole(self, one):
        if any([number != 0 for number in one[1:]]):
            return None
        return one[0]
