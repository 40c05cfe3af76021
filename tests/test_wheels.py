import inspect
import itertools
import math
import unittest

from tests.samples import GREAT, outcome
from tracebook import wheels as module
from tracebook.errors import BadWheel, BookError, NoMove
from tracebook.wheels import Wheel, circle

ALL = range(1, 61)
WHEELS = {many: Wheel(many) for many in ALL}
NO_WHEELS = (0, -1, -2, -60, 61, 62, 120, GREAT, -GREAT, 10 ** 600 - 1)


def multiplied(one, other):
    found = [0] * (len(one) + len(other) - 1)
    for j, k in itertools.product(range(len(one)), range(len(other))):
        found[j + k] += one[j] * other[k]
    return found


def divisors(many):
    return [d for d in range(1, many + 1) if many % d == 0]


def left_over(many, counts):
    """What is left of a polynomial by the circle of many, found by taking off whole multiples from the top."""
    rim = circle(many)
    left = list(counts) + [0] * len(rim)
    for top in range(len(left) - 1, len(rim) - 2, -1):
        multiple = [0] * (top - len(rim) + 1) + [left[top] * number for number in rim]
        left = [a - b for a, b in zip(left, multiple + [0] * len(left))]
    return left[:len(rim) - 1]


def prime_and_root(many):
    """A great prime, and a number that to many is 1 by it, and to nothing lower."""
    prime = 10 ** 9 // many * many + 1
    while any(prime % d == 0 for d in range(2, math.isqrt(prime) + 1)):
        prime += many
    for base in range(2, prime):
        root = pow(base, (prime - 1) // many, prime)
        if all(pow(root, d, prime) != 1 for d in divisors(many)[:-1]):
            return prime, root


PRIMES = {many: prime_and_root(many) for many in ALL}


def values(many, counts, wheel=None):
    """The sum's values by a prime, for each root that may stand for spoke 1 of the wheel.

    By a great prime a number of small figures is told by them: two lowest forms with the same values are equal.
    """
    wheel = many if wheel is None else wheel
    prime, root = PRIMES[wheel]
    step = wheel // many
    roots = [pow(root, k, prime) for k in range(1, wheel + 1) if math.gcd(k, wheel) == 1]
    return [sum(c * pow(z, step * k, prime) for k, c in enumerate(counts)) % prime for z in roots]


def numbers(many):
    """Some numbers of a wheel."""
    size = WHEELS[many].size
    return [
        [0] * size,
        [1] + [0] * (size - 1),
        [0] * (size - 1) + [-3],
        [1] * size,
        [(7 * k + 3) % 11 - 5 for k in range(size)],
        [(-2) ** k for k in range(size)],
        [(-1) ** k * (GREAT + k) for k in range(size)],
    ]


class Interface(unittest.TestCase):
    def test_names_and_arguments(self):
        self.assertEqual(list(inspect.signature(circle).parameters), ["many"])
        self.assertEqual(list(inspect.signature(module.Wheel).parameters), ["many"])
        wanted = {
            "lowest": ["counts"],
            "spoke": ["k"],
            "plus": ["one", "other"],
            "times": ["one", "other"],
            "turned": ["one", "k"],
            "backed": ["one"],
            "moved": ["one", "j"],
            "wider": ["one", "many"],
            "whole": ["one"],
        }
        for name, arguments in wanted.items():
            with self.subTest(name):
                self.assertEqual(list(inspect.signature(getattr(Wheel(5), name)).parameters), arguments)


class Circle(unittest.TestCase):
    def test_those_that_the_document_tells(self):
        wanted = {1: [-1, 1], 2: [1, 1], 3: [1, 1, 1], 4: [1, 0, 1], 6: [1, -1, 1]}
        for many, told in wanted.items():
            with self.subTest(many):
                self.assertEqual(circle(many), told)

    def test_some_more(self):
        wanted = {
            5: [1, 1, 1, 1, 1],
            8: [1, 0, 0, 0, 1],
            9: [1, 0, 0, 1, 0, 0, 1],
            10: [1, -1, 1, -1, 1],
            12: [1, 0, -1, 0, 1],
            15: [1, -1, 0, 1, -1, 1, 0, -1, 1],
            30: [1, 1, 0, -1, -1, -1, 0, 1, 1],
            59: [1] * 59,
            60: [1, 0, 1, 0, 0, 0, -1, 0, -1, 0, -1, 0, 0, 0, 1, 0, 1],
        }
        for many, told in wanted.items():
            with self.subTest(many):
                self.assertEqual(circle(many), told)

    def test_the_circles_of_all_divisors_make_the_whole_polynomial(self):
        for many in ALL:
            with self.subTest(many):
                found = [1]
                for divisor in divisors(many):
                    found = multiplied(found, circle(divisor))
                self.assertEqual(found, [-1] + [0] * (many - 1) + [1])

    def test_degree_and_last_number(self):
        for many in ALL:
            with self.subTest(many):
                self.assertEqual(len(circle(many)) - 1, sum(math.gcd(k, many) == 1 for k in range(many)))
                self.assertEqual(circle(many)[-1], 1)

    def test_refused(self):
        for many in NO_WHEELS:
            with self.subTest(many), self.assertRaises(BookError) as caught:
                circle(many)
            self.assertIs(caught.exception.__class__, BadWheel)
            self.assertEqual(vars(caught.exception), {})

    def test_the_list_is_the_askers_own(self):
        told = circle(12)
        told[0] = 99
        told.append(5)
        wheel = Wheel(12)
        self.assertEqual(circle(12), [1, 0, -1, 0, 1])
        self.assertEqual(wheel.spoke(4), [-1, 0, 1, 0])


class Fields(unittest.TestCase):
    def test_each_wheel(self):
        for many in ALL:
            with self.subTest(many):
                wheel = Wheel(many)
                self.assertEqual((wheel.spokes, wheel.size), (many, len(circle(many)) - 1))

    def test_some_sizes(self):
        sizes = {1: 1, 2: 1, 3: 2, 4: 2, 5: 4, 6: 2, 7: 6, 12: 4, 59: 58, 60: 16}
        for many, size in sizes.items():
            self.assertEqual(Wheel(many).size, size)

    def test_refused(self):
        for many in NO_WHEELS:
            with self.subTest(many), self.assertRaises(BookError) as caught:
                Wheel(many)
            self.assertIs(caught.exception.__class__, BadWheel)
            self.assertEqual(vars(caught.exception), {})


class Lowest(unittest.TestCase):
    def check(self, many, counts):
        kept = list(counts)
        told = WHEELS[many].lowest(counts)
        self.assertEqual(counts, kept)
        self.assertIsNot(told, counts)
        self.assertEqual(told, left_over(many, counts))
        self.assertEqual(len(told), WHEELS[many].size)
        self.assertEqual(values(many, told), values(many, counts))

    def test_some_sums(self):
        self.assertEqual(Wheel(4).lowest([1, 2, 3, 4]), [-2, -2])
        self.assertEqual(Wheel(3).lowest([0, 0, 1]), [-1, -1])
        self.assertEqual(Wheel(6).lowest([0, 0, 1]), [-1, 1])
        self.assertEqual(Wheel(6).lowest([1, 1, 1, 1, 1, 1]), [0, 0])
        self.assertEqual(Wheel(1).lowest([3, -5, 4]), [2])
        self.assertEqual(Wheel(2).lowest([3, -5, 4]), [12])
        self.assertEqual(Wheel(5).lowest([1, 1, 1, 1, 2]), [-1, -1, -1, -1])

    def test_no_number(self):
        for many in ALL:
            self.assertEqual(WHEELS[many].lowest([]), [0] * WHEELS[many].size)

    def test_fewer_numbers_than_the_size(self):
        for many in ALL:
            for length in range(1, WHEELS[many].size + 1):
                counts = [(-1) ** k * (k + 2) for k in range(length)]
                self.assertEqual(WHEELS[many].lowest(counts), counts + [0] * (WHEELS[many].size - length))

    def test_lengths_up_to_240_and_somewhat_beyond(self):
        for many in ALL:
            for length in (1, 2, many - 1, many, many + 1, 2 * many, 120, 239, 240, 250):
                with self.subTest(many, length=length):
                    self.check(many, [(5 * k * k + 3 * k) % 23 - 11 for k in range(length)])

    def test_numbers_of_hundreds_of_figures(self):
        for many in ALL:
            with self.subTest(many):
                self.check(many, [(-1) ** k * (10 ** 600 - 1 - k * k) for k in range(240)])
                self.check(many, [-GREAT] * 240)
                self.check(many, [GREAT * k for k in range(many)])

    def test_a_lowest_form_stays_as_it_is(self):
        for many in ALL:
            for number in numbers(many):
                self.check(many, number)
                self.assertEqual(WHEELS[many].lowest(number), number)

    def test_all_spokes_of_a_divisor_make_nought(self):
        for many in ALL:
            for divisor in divisors(many)[:-1]:
                counts = [int(k % divisor == 0) for k in range(many)]
                self.assertEqual(WHEELS[many].lowest(counts), [0] * WHEELS[many].size)

    def test_spokes_come_round(self):
        for many in (1, 2, 7, 12, 60):
            for k in range(240):
                self.assertEqual(WHEELS[many].lowest([0] * k + [9]), WHEELS[many].lowest([0] * (k % many) + [9]))


class Spoke(unittest.TestCase):
    def test_some(self):
        self.assertEqual([Wheel(4).spoke(k) for k in range(4)], [[1, 0], [0, 1], [-1, 0], [0, -1]])
        self.assertEqual([Wheel(2).spoke(k) for k in range(-1, 3)], [[-1], [1], [-1], [1]])
        self.assertEqual([Wheel(1).spoke(k) for k in (-GREAT, -1, 0, 1, GREAT)], [[1]] * 5)
        self.assertEqual(Wheel(5).spoke(4), [-1, -1, -1, -1])

    def test_each_spoke_of_each_wheel(self):
        for many in ALL:
            prime, root = PRIMES[many]
            for k in range(-many, 2 * many):
                told = WHEELS[many].spoke(k)
                self.assertEqual(told, left_over(many, [0] * (k % many) + [1]), (many, k))
                self.assertEqual(values(many, told)[0], pow(root, k, prime), (many, k))

    def test_very_great_numbers(self):
        for many in ALL:
            for k in (GREAT, -GREAT, 10 ** 600 - 1, 1 - 10 ** 600, many * GREAT, many * GREAT - 1):
                self.assertEqual(WHEELS[many].spoke(k), WHEELS[many].spoke(k % many), (many, k))

    def test_the_spokes_of_a_wheel_are_unlike(self):
        for many in ALL:
            self.assertEqual(len({tuple(WHEELS[many].spoke(k)) for k in range(many)}), many)


class PlusAndTimes(unittest.TestCase):
    def test_some(self):
        four = Wheel(4)
        self.assertEqual(four.plus([1, 2], [30, -5]), [31, -3])
        self.assertEqual(four.times([1, 2], [30, -5]), [40, 55])
        self.assertEqual(Wheel(1).times([GREAT], [-GREAT]), [-GREAT * GREAT])
        self.assertEqual(Wheel(2).times([-3], [7]), [-21])
        self.assertEqual(Wheel(3).times([0, 1], [0, 1]), [-1, -1])
        self.assertEqual(Wheel(6).times([0, 1], [0, 1]), [-1, 1])

    def test_all_wheels(self):
        for many in ALL:
            wheel = WHEELS[many]
            prime = PRIMES[many][0]
            for one, other in itertools.product(numbers(many), repeat=2):
                kept = (list(one), list(other))
                total, result = wheel.plus(one, other), wheel.times(one, other)
                self.assertEqual((one, other), kept)
                self.assertEqual(total, [a + b for a, b in zip(one, other)])
                self.assertEqual(len(result), wheel.size)
                pairs = zip(values(many, one), values(many, other))
                self.assertEqual(values(many, result), [a * b % prime for a, b in pairs], many)
                self.assertEqual(result, left_over(many, multiplied(one, other)))

    def test_spokes_times_spokes(self):
        for many in (1, 2, 3, 8, 15, 30, 60):
            wheel = WHEELS[many]
            for j, k in itertools.product(range(many), repeat=2):
                self.assertEqual(wheel.times(wheel.spoke(j), wheel.spoke(k)), wheel.spoke(j + k))

    def test_a_number_with_itself(self):
        wheel = Wheel(5)
        one = [1, 2, 3, 4]
        self.assertEqual(wheel.plus(one, one), [2, 4, 6, 8])
        self.assertEqual(wheel.times(one, one), left_over(5, multiplied(one, one)))
        self.assertEqual(one, [1, 2, 3, 4])


class Turned(unittest.TestCase):
    def test_some(self):
        self.assertEqual(Wheel(4).turned([2, 3], 1), [-3, 2])
        self.assertEqual(Wheel(4).turned([2, 3], -1), [3, -2])
        self.assertEqual(Wheel(1).turned([9], GREAT), [9])

    def test_it_is_the_number_times_the_spoke(self):
        for many in ALL:
            wheel = WHEELS[many]
            turns = sorted({0, 1, many - 1, many, many + 1, -1, -many, 2 * many + 3, GREAT, -GREAT})
            for one, k in itertools.product(numbers(many), turns):
                kept = list(one)
                told = wheel.turned(one, k)
                self.assertEqual(one, kept)
                self.assertIsNot(told, one)
                self.assertEqual(told, wheel.times(one, wheel.spoke(k)), (many, k))
                self.assertEqual(wheel.turned(told, -k), one, (many, k))


class Backed(unittest.TestCase):
    def test_some(self):
        self.assertEqual(Wheel(4).backed([2, 3]), [2, -3])
        self.assertEqual(Wheel(3).backed([0, 1]), [-1, -1])
        self.assertEqual(Wheel(5).backed([7, 1, 0, 0]), [6, -1, -1, -1])
        self.assertEqual([Wheel(1).backed([4]), Wheel(2).backed([-4])], [[4], [-4]])

    def test_spokes(self):
        for many in ALL:
            wheel = WHEELS[many]
            for k in range(many):
                self.assertEqual(wheel.backed(wheel.spoke(k)), wheel.spoke(-k), (many, k))

    def test_all_wheels(self):
        for many in ALL:
            wheel = WHEELS[many]
            for one in numbers(many):
                kept = list(one)
                told = wheel.backed(one)
                self.assertEqual(one, kept)
                self.assertIsNot(told, one)
                # The roots that may stand for spoke 1 are told with their powers rising, so their backs are falling.
                self.assertEqual(values(many, told), values(many, one)[::-1], many)
                self.assertEqual(wheel.backed(told), one)


class Moved(unittest.TestCase):
    def test_the_one_that_the_document_tells(self):
        wheel = Wheel(5)
        self.assertEqual(wheel.moved(wheel.spoke(1), 2), wheel.spoke(2))
        self.assertEqual(wheel.moved(wheel.spoke(4), 2), wheel.spoke(3))

    def test_spokes_by_each_move(self):
        for many in ALL:
            wheel = WHEELS[many]
            for j in range(-many, 2 * many + 1):
                if math.gcd(j, many) == 1:
                    for k in range(0, many, 1 + many // 7):
                        self.assertEqual(wheel.moved(wheel.spoke(k), j), wheel.spoke(j * k), (many, j, k))

    def test_numbers(self):
        for many in ALL:
            wheel = WHEELS[many]
            prime, root = PRIMES[many]
            for one in numbers(many):
                for j in [j for j in (1, -1, 7, 11, 13, 59, 61, -17, 10 ** 30 + 57) if math.gcd(j, many) == 1]:
                    kept = list(one)
                    told = wheel.moved(one, j)
                    self.assertEqual(one, kept)
                    self.assertIsNot(told, one)
                    value = sum(c * pow(root, j * k % many, prime) for k, c in enumerate(one)) % prime
                    self.assertEqual(values(many, told)[0], value, (many, j))
                    self.assertEqual(len(told), wheel.size)

    def test_moves_below_nought_and_very_great(self):
        for many in ALL:
            wheel = WHEELS[many]
            one = numbers(many)[4]
            self.assertEqual(wheel.moved(one, 1), one)
            self.assertEqual(wheel.moved(one, many * GREAT + 1), one)
            self.assertEqual(wheel.moved(one, 1 - many * GREAT), one)
            self.assertEqual(wheel.moved(one, -1), wheel.backed(one))
            self.assertEqual(wheel.moved(one, -many * GREAT - 1), wheel.backed(one))

    def test_refused_just_where_there_is_a_common_divisor(self):
        for many in ALL:
            wheel = WHEELS[many]
            one = [1] * wheel.size
            for j in [*range(-130, 131), GREAT, -GREAT, many * GREAT, 2 * GREAT, -6 * GREAT, 10 ** 600 - 1]:
                refused = outcome(wheel.moved, one, j) == ("NoMove", {})
                self.assertEqual(refused, math.gcd(j, many) > 1, (many, j))
            self.assertEqual(one, [1] * wheel.size)

    def test_nought(self):
        self.assertEqual(Wheel(1).moved([5], 0), [5])
        for many in range(2, 61):
            with self.assertRaises(BookError) as caught:
                WHEELS[many].moved(WHEELS[many].spoke(0), 0)
            self.assertIs(caught.exception.__class__, NoMove)
            self.assertEqual(vars(caught.exception), {})


class Wider(unittest.TestCase):
    def test_some(self):
        self.assertEqual(Wheel(2).wider([-3], 2), [-3, 0])
        self.assertEqual(Wheel(3).wider([0, 1], 2), [-1, 1])
        self.assertEqual(Wheel(4).wider([2, 3], 3), [2, 0, 0, 3])
        self.assertEqual(Wheel(1).wider([7], 60), [7] + [0] * 15)

    def test_each_wheel_and_each_width(self):
        for many in ALL:
            for width in range(1, 60 // many + 1):
                for one in numbers(many):
                    kept = list(one)
                    told = WHEELS[many].wider(one, width)
                    self.assertEqual(one, kept)
                    self.assertIsNot(told, one)
                    self.assertEqual(len(told), WHEELS[many * width].size)
                    self.assertEqual(values(many * width, told), values(many, one, many * width), (many, width))

    def test_spokes(self):
        for many in ALL:
            for width in range(1, 60 // many + 1):
                for k in range(0, many, 1 + many // 5):
                    told = WHEELS[many].wider(WHEELS[many].spoke(k), width)
                    self.assertEqual(told, WHEELS[many * width].spoke(k * width))

    def test_refused_just_at_its_edges(self):
        for many in ALL:
            one = [1] * WHEELS[many].size
            for width in range(-2, 63):
                refused = outcome(WHEELS[many].wider, one, width) == ("BadWheel", {})
                self.assertEqual(refused, width < 1 or many * width > 60, (many, width))
            for width in (GREAT, -GREAT):
                self.assertEqual(outcome(WHEELS[many].wider, one, width), ("BadWheel", {}))
            self.assertEqual(one, [1] * WHEELS[many].size)


class Whole(unittest.TestCase):
    def test_wheels_of_one_number(self):
        for number in (0, 1, -1, GREAT, -GREAT):
            self.assertEqual(Wheel(1).whole([number]), number)
            self.assertEqual(Wheel(2).whole([number]), number)

    def test_each_wheel(self):
        for many in range(3, 61):
            size = WHEELS[many].size
            for number in (0, 5, -5, GREAT, -GREAT):
                self.assertEqual(WHEELS[many].whole([number] + [0] * (size - 1)), number)
                for place in range(1, size):
                    one = [number] + [0] * (size - 1)
                    one[place] = -1
                    self.assertIsNone(WHEELS[many].whole(one))
                    self.assertEqual(one[place], -1)

    def test_noughts_alone(self):
        for many in ALL:
            self.assertEqual(WHEELS[many].whole([0] * WHEELS[many].size), 0)


class NothingIsKept(unittest.TestCase):
    def answers(self, wheel):
        one = [1, 2, 3, 4]
        other = [5, -6, 7, -8]
        return [
            wheel.lowest([1, 2, 3, 4, 5, 6]),
            wheel.spoke(4),
            wheel.plus(one, other),
            wheel.times(one, other),
            wheel.turned(one, 3),
            wheel.turned(one, 0),
            wheel.backed(one),
            wheel.moved(one, 3),
            wheel.moved(one, 1),
            wheel.wider(one, 2),
            wheel.wider(one, 1),
        ]

    def test_lists_that_were_told_may_be_changed(self):
        wheel = Wheel(5)
        first = self.answers(wheel)
        kept = [list(told) for told in first]
        for told in first:
            told[0] = 99
            told.append(98)
        self.assertEqual(self.answers(wheel), kept)
        self.assertEqual(self.answers(Wheel(5)), kept)
        self.assertEqual((wheel.spokes, wheel.size), (5, 4))

    def test_lists_handed_in_may_be_changed_behind_the_call(self):
        wheel = Wheel(5)
        asks = [
            lambda one: wheel.lowest(one),
            lambda one: wheel.plus(one, [0, 0, 0, 0]),
            lambda one: wheel.times(one, [1, 0, 0, 0]),
            lambda one: wheel.turned(one, 0),
            lambda one: wheel.moved(one, 1),
            lambda one: wheel.wider(one, 1),
        ]
        for ask in asks:
            one = [1, 2, 3, 4]
            told = ask(one)
            one[0] = 99
            one.pop()
            self.assertEqual(told, [1, 2, 3, 4])

    def test_a_refusal_changes_nothing(self):
        wheel = Wheel(5)
        first = self.answers(wheel)
        for ask in (lambda: wheel.moved([1, 2, 3, 4], 10), lambda: wheel.wider([1, 2, 3, 4], 13), lambda: Wheel(61)):
            self.assertIn(outcome(ask), [("NoMove", {}), ("BadWheel", {})])
        self.assertEqual(self.answers(wheel), first)


if __name__ == "__main__":
    unittest.main()
