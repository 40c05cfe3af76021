import copy
import inspect
import unittest

from tests import samples
from tests.samples import GREAT
from tracebook import books as module
from tracebook.books import Book, book_of
from tracebook.classes import classes
from tracebook.errors import BadWheel, BookError
from tracebook.tables import Group, group_of, turns
from tracebook.ways import Lifted
from tracebook.wheels import Wheel

SQUARE_ROWS = [
    [[1, 0], [-1, 0], [1, 0], [-1, 0], [1, 0]],
    [[1, 0], [-1, 0], [1, 0], [1, 0], [-1, 0]],
    [[1, 0], [1, 0], [1, 0], [-1, 0], [-1, 0]],
    [[1, 0], [1, 0], [1, 0], [1, 0], [1, 0]],
    [[2, 0], [0, 0], [-2, 0], [0, 0], [0, 0]],
]

KNOWN = {
    "one thing": (1, [[[1]]]),
    "cyclic 2": (2, [[[1], [-1]], [[1], [1]]]),
    "symmetric 3": (6, [
        [[1, 0], [1, 0], [-1, 0]],
        [[1, 0], [1, 0], [1, 0]],
        [[2, 0], [-1, 0], [0, 0]],
    ]),
    "symmetric 3, shuffled": (6, [
        [[-1, 0], [1, 0], [1, 0]],
        [[1, 0], [1, 0], [1, 0]],
        [[0, 0], [-1, 0], [2, 0]],
    ]),
    "square": (4, SQUARE_ROWS),
    "quaternion": (4, SQUARE_ROWS),
    "even 4": (6, [
        [[1, 0], [-1, 1], [0, -1], [1, 0]],
        [[1, 0], [0, -1], [-1, 1], [1, 0]],
        [[1, 0], [1, 0], [1, 0], [1, 0]],
        [[3, 0], [0, 0], [0, 0], [-1, 0]],
    ]),
}

THREE_ROWS = [[[1, 0], [-1, -1], [0, 1]], [[1, 0], [0, 1], [-1, -1]], [[1, 0], [1, 0], [1, 0]]]


class BookCase(unittest.TestCase):
    def check_book(self, book, table, spokes):
        """All that the document says of the book of a group."""
        self.assertIsInstance(book, Book)
        self.assertIsInstance(book.group, Group)
        self.assertEqual(vars(book.group), vars(group_of(table)))
        self.assertEqual(book.spokes, spokes)
        self.assertEqual(book.classes, classes(group_of(table)))
        self.assertEqual(len(book.ways), len(book.classes))
        self.assertEqual(sum(way.size ** 2 for way in book.ways), len(table))
        for way in book.ways:
            self.check_way(way, table, spokes)
        self.check_rows(book, table)
        self.check_angles(book, len(table))

    def check_way(self, way, table, spokes):
        """That it is made by Lifted, of this group and number of spokes, by a one-row way of a part."""
        self.assertIs(way.__class__, Lifted)
        self.assertEqual((way.group.rows, way.spokes), (table, spokes))
        made = Lifted(group_of(table), way.part, way.marks, spokes)
        for thing in range(len(table)):
            self.assertEqual(way.moves(thing), made.moves(thing))

    def check_rows(self, book, table):
        wheel = Wheel(book.spokes)
        self.assertEqual(len(book.rows), len(book.ways))
        for row, way in zip(book.rows, book.ways):
            traces = [[wheel.lowest(way.trace(thing)) for thing in fellows] for fellows in book.classes]
            for number, some in zip(row, traces):
                self.assertEqual(some, [number] * len(some))
            self.assertEqual(len(row), len(traces))
        order = [(way.size, row) for way, row in zip(book.ways, book.rows)]
        self.assertEqual(order, sorted(order))
        for place in range(len(order) - 1):
            self.assertNotEqual(order[place], order[place + 1])

    def check_angles(self, book, many):
        for place, way in enumerate(book.ways):
            sums = [samples.sum_with_backed(way, other) for other in book.ways]
            self.assertEqual(sums, [many if other == place else 0 for other in range(len(sums))])


class Interface(unittest.TestCase):
    def test_names_and_arguments(self):
        self.assertEqual(str(inspect.signature(module.book_of)), "(group, spokes=None)")

    def test_fields(self):
        book = book_of(group_of(samples.SYMMETRIC_3))
        for kept in (book.classes, book.ways, book.rows, book.rows[0], book.rows[0][0], book.classes[0]):
            self.assertIsInstance(kept, list)
        self.assertIsInstance(book.spokes, int)
        self.assertIsInstance(book_of(group_of(samples.SYMMETRIC_3), spokes=12), Book)


class Books(BookCase):
    def test_known_ones(self):
        for name, (spokes, rows) in KNOWN.items():
            with self.subTest(name):
                book = book_of(group_of(samples.TABLES[name]))
                self.assertEqual((book.spokes, book.rows), (spokes, rows))

    def test_numbers_of_the_wheel_are_compared_as_lists(self):
        self.assertEqual(book_of(group_of(samples.cyclic(3))).rows, THREE_ROWS)
        rows = [[[1, 0], [-1, 1], [0, -1]], [[1, 0], [0, -1], [-1, 1]], [[1, 0], [1, 0], [1, 0]]]
        self.assertEqual(book_of(group_of(samples.cyclic(3)), 6).rows, rows)

    def test_every_group(self):
        for name, group, table in samples.every_group():
            with self.subTest(name):
                self.check_book(book_of(group), table, turns(group))

    def test_every_group_by_as_many_spokes_as_can_be(self):
        for name, group, table in samples.every_group():
            spokes = samples.greatest(turns(group))
            with self.subTest(name):
                self.check_book(book_of(group, spokes), table, spokes)

    def test_sizes(self):
        wanted = {
            "cyclic 23": [1] * 23,
            "sixteen with all squares one": [1] * 16,
            "symmetric 3": [1, 1, 2],
            "quaternion": [1, 1, 1, 1, 2],
            "even 4": [1, 1, 1, 3],
            "eighteen": [1] * 6 + [2] * 3,
            "twenty": [1, 1, 1, 1, 4],
            "twenty-one": [1, 1, 1, 3, 3],
            "twenty-two": [1, 1, 2, 2, 2, 2, 2],
        }
        for name, sizes in wanted.items():
            for whole_name in (name, name + ", shuffled"):
                book = book_of(group_of(samples.TABLES[whole_name]))
                self.assertEqual([way.size for way in book.ways], sizes, whole_name)

    def test_the_way_that_leaves_all_is_in_each_book(self):
        for name, group, table in samples.every_group():
            book = book_of(group)
            one = Wheel(book.spokes).spoke(0)
            self.assertIn([one] * len(book.classes), book.rows, name)


class Spokes(BookCase):
    def test_left_out_and_none_are_the_turns(self):
        for name, group, table in samples.groups():
            least = turns(group)
            books = [book_of(group), book_of(group, None), book_of(group, least)]
            with self.subTest(name):
                self.assertEqual([book.spokes for book in books], [least] * 3)
                self.assertEqual([book.rows for book in books], [books[0].rows] * 3)

    def test_by_more_spokes_the_rows_are_the_same_numbers(self):
        for name, group, table in samples.groups():
            least = turns(group)
            wheel = Wheel(least)
            rows = book_of(group).rows
            for times in range(2, min(60 // least, 5) + 1):
                wide = book_of(group, least * times)
                wanted = [[wheel.wider(number, times) for number in row] for row in rows]
                with self.subTest(name, times=times):
                    self.assertEqual(wide.spokes, least * times)
                    self.assertEqual(sorted(wide.rows), sorted(wanted))

    def test_just_those_that_serve_are_taken(self):
        for name in ("one thing", "cyclic 2", "symmetric 3", "quaternion, shuffled", "cyclic 23"):
            group = group_of(samples.TABLES[name])
            least = turns(group)
            for spokes in [*range(-61, 122), GREAT, -GREAT, least * GREAT]:
                with self.subTest(name, spokes=spokes):
                    if 1 <= spokes <= 60 and spokes % least == 0:
                        self.assertEqual(book_of(group, spokes).spokes, spokes)
                    else:
                        with self.assertRaises(BookError) as caught:
                            book_of(group, spokes)
                        self.assertIs(caught.exception.__class__, BadWheel)
                        self.assertEqual(vars(caught.exception), {})


class NothingIsChanged(BookCase):
    def test_the_group_stays_as_it_was(self):
        for name, group, table in samples.groups():
            before = copy.deepcopy(vars(group))
            first = book_of(group).rows
            samples.outcome(book_of, group, 0)
            with self.subTest(name):
                self.assertEqual(vars(group), before)
                self.assertEqual(book_of(group).rows, first)

    def test_the_table_may_be_changed_behind_the_call(self):
        table = copy.deepcopy(samples.SYMMETRIC_3)
        book = book_of(group_of(table))
        table[0][0] = 5
        table.pop()
        self.check_book(book, samples.SYMMETRIC_3, 6)

    def test_what_the_ways_tell_is_the_askers_own(self):
        book = book_of(group_of(samples.SYMMETRIC_3))
        for way in book.ways:
            way.moves(1).clear()
            way.trace(1).clear()
        classes(book.group)[0].clear()
        self.check_book(book, samples.SYMMETRIC_3, 6)


if __name__ == "__main__":
    unittest.main()
