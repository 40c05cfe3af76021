import copy
import inspect
import itertools
import unittest

from tests import samples
from tests.samples import outcome
from tracebook import apart as module
from tracebook.apart import shares, taken_apart
from tracebook.books import book_of
from tracebook.errors import BookError, OtherGroup, OtherWheel
from tracebook.tables import group_of, turns
from tracebook.ways import Backed, Beside, Crossed, Lifted, Raised, Regular, Within

SOME = (
    "one thing", "cyclic 2, shuffled", "cyclic 6, shuffled", "four with all squares one", "symmetric 3",
    "symmetric 3, shuffled", "square, shuffled", "quaternion", "even 4, shuffled", "twelve, dicyclic",
    "sixteen, modular", "twenty, shuffled", "twenty-one",
)


def books(names=SOME):
    """Some books, by the turns and by the turns taken more often."""
    for name in names:
        group = group_of(samples.TABLES[name])
        least = turns(group)
        for spokes in sorted({least, samples.greatest(least)}):
            yield f"{name} by {spokes}", book_of(group, spokes)


def lifts(book, parts):
    """Each lift of each one-row way of some parts of a book's group."""
    for part in parts:
        for marks in samples.one_row_ways(book.group.rows, part, turns(book.group)):
            times = book.spokes // turns(book.group)
            yield Lifted(book.group, part, [mark * times for mark in marks], book.spokes)


def led(way, thing, column):
    """What a thing makes of a column."""
    found = [None] * len(column)
    for (place, more), spoke in zip(way.moves(thing), column):
        if spoke is not None:
            found[place] = (spoke + more) % way.spokes
    return found


def at_right_angles(one, other, spokes):
    counts = [0] * spokes
    for spoke, less in zip(one, other):
        if spoke is not None and less is not None:
            counts[(spoke - less) % spokes] += 1
    return not any(samples.wheel_of(spokes).lowest(counts))


class ApartCase(unittest.TestCase):
    def check(self, book, way):
        """All that the document says of a way taken apart, and of its shares."""
        told = shares(book, way)
        self.assertIsInstance(told, list)
        sums = [samples.sum_with_backed(way, other) for other in book.ways]
        self.assertEqual([share * book.group.many for share in told], sums)
        copies = taken_apart(book, way)
        self.assertIsInstance(copies, list)
        numbers = [number for number, columns in copies]
        self.assertEqual(numbers, [number for number, share in enumerate(told) for step in range(share)])
        for one in copies:
            self.assertIsInstance(one, tuple)
            self.check_copy(way, book.ways[one[0]], one[1])
        self.check_columns(way, [column for number, columns in copies for column in columns])

    def check_copy(self, way, told, columns):
        self.assertIsInstance(columns, list)
        self.assertEqual(len(columns), told.size)
        for thing in range(way.group.many):
            for p, (q, k) in enumerate(told.moves(thing)):
                wanted = [None if spoke is None else (spoke + k) % way.spokes for spoke in columns[q]]
                self.assertEqual(led(way, thing, columns[p]), wanted)

    def check_columns(self, way, columns):
        self.assertEqual(len(columns), way.size)
        for column in columns:
            self.assertIsInstance(column, list)
            self.assertEqual(len(column), way.size)
            self.assertTrue(any(spoke is not None for spoke in column))
            self.assertTrue(all(spoke is None or 0 <= spoke < way.spokes for spoke in column))
        for one, other in itertools.combinations(columns, 2):
            self.assertTrue(at_right_angles(one, other, way.spokes))


class Interface(unittest.TestCase):
    def test_names_and_arguments(self):
        for name in ("shares", "taken_apart"):
            self.assertEqual(str(inspect.signature(getattr(module, name))), "(book, way)")


class Apart(ApartCase):
    def test_some(self):
        group = group_of(samples.SYMMETRIC_3)
        book = book_of(group)
        self.assertEqual(shares(book, Regular(group)), [1, 1, 2])
        self.assertEqual(shares(book, Lifted(group, [0, 3], [0, 0])), [0, 1, 1])
        self.assertEqual(shares(book, Lifted(group, [0, 3], [0, 3])), [1, 0, 1])
        two = Lifted(group, [0, 1, 2], [0, 2, 4])
        self.assertEqual(shares(book, two), [0, 0, 1])
        self.assertEqual(shares(book, Crossed(two, two)), [1, 1, 1])
        self.assertEqual([number for number, columns in taken_apart(book, Crossed(two, two))], [0, 1, 2])

    def test_one_thing(self):
        group = group_of([[0]])
        for spokes in (None, 60):
            book = book_of(group, spokes)
            way = Regular(group, spokes)
            self.assertEqual(shares(book, Beside(way, way)), [2])
            self.check(book, Beside(Beside(way, way), way))

    def test_the_ways_of_the_book_are_themselves(self):
        for name, book in books():
            for number, way in enumerate(book.ways):
                with self.subTest(name, number=number):
                    self.assertEqual(shares(book, way), [int(number == other) for other in range(len(book.ways))])
                    self.check(book, way)

    def test_the_regular_way_has_each_way_as_often_as_that_has_places(self):
        for name, group, table in samples.every_group():
            book, way = book_of(group), Regular(group)
            with self.subTest(name):
                self.assertEqual(shares(book, way), [other.size for other in book.ways])
                self.check(book, way)

    def test_all_lifts(self):
        for name, book in books(SOME[:10]):
            for way in lifts(book, samples.parts(book.group.rows)):
                with self.subTest(name, part=way.part, marks=way.marks):
                    self.check(book, way)

    def test_beside(self):
        for name, book in books():
            first, last = book.ways[0], book.ways[-1]
            ways = [Beside(first, last), Beside(Beside(last, last), first), Beside(Beside(last, first), last)]
            ways.append(Beside(Regular(book.group, book.spokes), Beside(last, Regular(book.group, book.spokes))))
            for number, way in enumerate(ways):
                with self.subTest(name, number=number):
                    self.check(book, way)
            sums = [sum(both) for both in zip(shares(book, ways[0]), shares(book, ways[1]))]
            self.assertEqual(shares(book, Beside(ways[0], ways[1])), sums)

    def test_crossed(self):
        for name, book in books():
            chosen = book.ways[:2] + book.ways[-2:]
            for one, other in itertools.product(chosen, repeat=2):
                with self.subTest(name):
                    self.check(book, Crossed(one, other))
            regular = Regular(book.group, book.spokes)
            if regular.size * book.ways[-1].size <= 60:
                with self.subTest(name):
                    self.check(book, Crossed(book.ways[-1], regular))
                    self.check(book, Crossed(regular, book.ways[-1]))

    def test_backed(self):
        for name, book in books():
            regular = Regular(book.group, book.spokes)
            for way in [*book.ways, Beside(book.ways[0], regular)]:
                with self.subTest(name):
                    self.check(book, Backed(way))

    def test_backed_with_crossed_has_the_way_that_leaves_all(self):
        for name, book in books():
            one = book.rows.index([samples.wheel_of(book.spokes).spoke(0)] * len(book.classes))
            for way in book.ways:
                self.assertEqual(shares(book, Crossed(way, Backed(way)))[one], 1, name)

    def test_within(self):
        for name, book in books():
            for part in samples.parts(book.group.rows):
                small = group_of(samples.inner_table(book.group.rows, part))
                inner_book = book_of(small, book.spokes)
                for way in (book.ways[-1], Regular(book.group, book.spokes)):
                    with self.subTest(name, part=part):
                        self.check(inner_book, Within(way, part))

    def test_raised(self):
        for name, book in books():
            for part in samples.parts(book.group.rows):
                small = group_of(samples.inner_table(book.group.rows, part))
                for way in (book_of(small, book.spokes).ways[-1], Within(book.ways[-1], part)):
                    if way.size * book.group.many <= 60 * len(part):
                        with self.subTest(name, part=part):
                            self.check(book, Raised(book.group, part, way))

    def test_what_is_raised_has_as_many_shares_as_there_are_within(self):
        for name, book in books(("symmetric 3, shuffled", "quaternion", "even 4", "twenty-one")):
            for part in samples.parts(book.group.rows):
                small = group_of(samples.inner_table(book.group.rows, part))
                inner_book = book_of(small, book.spokes)
                for number, way in enumerate(inner_book.ways):
                    wanted = [shares(inner_book, Within(other, part))[number] for other in book.ways]
                    self.assertEqual(shares(book, Raised(book.group, part, way)), wanted, (name, part))

    def test_sixty_places(self):
        for name in ("twenty", "twenty, shuffled"):
            book = book_of(group_of(samples.TABLES[name]))
            regular = Regular(book.group)
            self.check(book, Beside(Beside(regular, regular), regular))
            self.check(book, Raised(book.group, [book.group.unit], self.three(book.spokes)))

    def three(self, spokes):
        one = Regular(group_of([[0]]), spokes)
        return Beside(one, Beside(one, one))

    def test_all_spokes_that_serve(self):
        group = group_of(samples.SYMMETRIC_3)
        for spokes in range(6, 61, 6):
            book = book_of(group, spokes)
            way = Crossed(Backed(book.ways[2]), Lifted(group, [0, 4], [0, spokes // 2], spokes))
            self.check(book, way)

    def test_a_book_of_another_object_with_the_same_table(self):
        book = book_of(group_of(samples.QUATERNION))
        self.check(book, Regular(group_of(samples.QUATERNION)))


class Refusals(unittest.TestCase):
    def refused(self, kind, book, way):
        for ask in (shares, taken_apart):
            with self.assertRaises(BookError) as caught:
                ask(book, way)
            self.assertIs(caught.exception.__class__, kind)
            self.assertEqual(vars(caught.exception), {})

    def test_other_group(self):
        tables = (samples.SQUARE, samples.QUATERNION, samples.shuffled(samples.SQUARE), samples.cyclic(4))
        for one, other in itertools.permutations(map(group_of, tables), 2):
            self.refused(OtherGroup, book_of(one, 4), Regular(other, 4))
        self.refused(OtherGroup, book_of(group_of([[0]]), 4), Regular(group_of(samples.cyclic(2)), 4))

    def test_other_wheel(self):
        group = group_of(samples.SQUARE)
        for one, other in itertools.permutations((4, 8, 12, 60), 2):
            self.refused(OtherWheel, book_of(group, one), Regular(group, other))

    def test_both(self):
        self.refused(OtherGroup, book_of(group_of(samples.SQUARE)), Regular(group_of(samples.QUATERNION), 8))
        self.refused(OtherGroup, book_of(group_of(samples.SQUARE), 60), Regular(group_of(samples.cyclic(3))))

    def test_a_way_within_is_of_the_inner_group(self):
        group = group_of(samples.SYMMETRIC_3)
        self.refused(OtherGroup, book_of(group), Within(Regular(group), [0, 1, 2]))
        self.refused(OtherWheel, book_of(group_of(samples.cyclic(3))), Within(Regular(group), [0, 1, 2]))


class NothingIsChanged(unittest.TestCase):
    def state(self, book):
        ways = [[way.moves(thing) for thing in range(way.group.many)] for way in book.ways]
        parts = [(way.part, way.marks) for way in book.ways]
        return copy.deepcopy((vars(book.group), book.spokes, book.classes, book.rows, ways, parts))

    def test_what_is_told_is_the_askers_own(self):
        group = group_of(samples.SYMMETRIC_3)
        book, way = book_of(group), Regular(group)
        before = self.state(book)
        for ask in (shares, taken_apart):
            told = ask(book, way)
            first = copy.deepcopy(told)
            if ask is taken_apart:
                for number, columns in told:
                    for column in columns:
                        column[0] = 99
                        column.append(99)
                    columns.pop()
            told[0] = 99
            told.pop()
            self.assertEqual(ask(book, way), first)
        self.assertEqual(self.state(book), before)

    def test_no_column_is_told_twice_as_one_list(self):
        group = group_of(samples.QUATERNION)
        columns = [column for number, some in taken_apart(book_of(group), Regular(group)) for column in some]
        self.assertEqual(len({id(column) for column in columns}), 8)

    def test_refusals_change_nothing(self):
        group = group_of(samples.SYMMETRIC_3)
        book, way = book_of(group), Regular(group, 12)
        before, moves = self.state(book), [way.moves(thing) for thing in range(6)]
        first = (shares(book, Regular(group)), taken_apart(book, Regular(group)))
        for ask in (shares, taken_apart):
            self.assertEqual(outcome(ask, book, way), ("OtherWheel", {}))
            self.assertEqual(outcome(ask, book, Regular(group_of([[0]]), 6)), ("OtherGroup", {}))
        self.assertEqual(self.state(book), before)
        self.assertEqual([way.moves(thing) for thing in range(6)], moves)
        self.assertEqual((shares(book, Regular(group)), taken_apart(book, Regular(group))), first)


if __name__ == "__main__":
    unittest.main()
