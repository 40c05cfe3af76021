import copy
import inspect
import unittest

from tests import samples
from tracebook import reads as module
from tracebook.books import book_of
from tracebook.reads import steadies, still
from tracebook.tables import group_of, turns
from tracebook.ways import Backed, Beside, Crossed, Lifted, Raised, Regular, Within


def steady_parts(table):
    """All steady parts, found among all parts."""
    found = [part for part in samples.parts(table) if samples.first_lead_out(table, part) is None]
    return sorted(found, key=lambda part: (len(part), part))


def left_alone(way):
    return [a for a in range(way.group.many) if way.trace(a)[0] == way.size]


def core(table, part):
    """The things of a part that stay in it, whatever they are turned by."""
    return [h for h in part if all(samples.turned_in(table, h, t) in part for t in range(len(table)))]


class Interface(unittest.TestCase):
    def test_names_and_arguments(self):
        self.assertEqual(str(inspect.signature(module.still)), "(way)")
        self.assertEqual(str(inspect.signature(module.steadies)), "(book)")


class Still(unittest.TestCase):
    def check(self, way, wanted):
        told = still(way)
        self.assertIsInstance(told, list)
        self.assertEqual(told, wanted)
        self.assertEqual(told, left_alone(way))
        self.assertIsNone(samples.first_lead_out(way.group.rows, told))

    def test_regular_ways_leave_nothing_but_the_unit(self):
        for name, group, table in samples.every_group():
            with self.subTest(name):
                self.check(Regular(group), [group.unit])

    def test_a_lift_of_noughts_leaves_what_stays_in_the_part(self):
        for name, group, table in samples.groups():
            for part in samples.parts(table):
                with self.subTest(name, part=part):
                    self.check(Lifted(group, part, [0] * len(part)), core(table, part))

    def test_a_thing_that_turns_a_place_by_a_spoke_is_not_still(self):
        for name, group, table in samples.groups():
            full = list(range(group.many))
            for marks in samples.one_row_ways(table, full, turns(group)):
                with self.subTest(name, marks=marks):
                    self.check(Lifted(group, full, marks), [a for a, mark in enumerate(marks) if mark == 0])

    def test_some(self):
        group = group_of(samples.SQUARE)
        two = Lifted(group, [0, 1, 2, 3], [0, 1, 2, 3])
        sign = Lifted(group, list(range(8)), [0, 2, 0, 2, 0, 2, 0, 2])
        self.check(two, [0])
        self.check(Crossed(two, two), [0, 2])
        self.check(sign, [0, 2, 4, 6])
        self.check(Crossed(sign, sign), list(range(8)))
        self.check(Beside(sign, Lifted(group, [0, 1, 2, 3], [0, 2, 0, 2])), [0, 2])
        self.check(Backed(sign), [0, 2, 4, 6])
        self.check(Within(sign, [0, 1, 2, 3]), [0, 2])
        self.check(Within(sign, [0, 4]), [0, 1])
        self.check(Raised(group, [0, 2, 4, 6], Within(sign, [0, 2, 4, 6])), [0, 2, 4, 6])
        self.check(Raised(group, [0, 4], Within(sign, [0, 4])), [0])

    def test_one_thing(self):
        self.check(Regular(group_of([[0]]), 60), [0])

    def test_the_unit_need_not_be_0(self):
        group = group_of([[1, 2, 0], [2, 0, 1], [0, 1, 2]])
        self.check(Regular(group), [2])
        self.check(Lifted(group, [0, 1, 2], [0, 0, 0]), [0, 1, 2])


class Steadies(unittest.TestCase):
    def test_every_group(self):
        for name, group, table in samples.every_group():
            with self.subTest(name):
                told = steadies(book_of(group))
                self.assertIsInstance(told, list)
                self.assertEqual(told, steady_parts(table))

    def test_by_more_spokes(self):
        for name, group, table in samples.groups():
            with self.subTest(name):
                spokes = samples.greatest(turns(group))
                self.assertEqual(steadies(book_of(group, spokes)), steady_parts(table))

    def test_some(self):
        wanted = {
            "one thing": [[0]],
            "cyclic 6": [[0], [0, 3], [0, 2, 4], [0, 1, 2, 3, 4, 5]],
            "symmetric 3": [[0], [0, 1, 2], [0, 1, 2, 3, 4, 5]],
            "square": [[0], [0, 2], [0, 1, 2, 3], [0, 2, 4, 6], [0, 2, 5, 7], [0, 1, 2, 3, 4, 5, 6, 7]],
            "even 4": [[0], [0, 3, 8, 11], list(range(12))],
            "twenty-one": [[0], list(range(7)), list(range(21))],
        }
        for name, parts in wanted.items():
            with self.subTest(name):
                self.assertEqual(steadies(book_of(group_of(samples.TABLES[name]))), parts)

    def test_sixteen_with_all_squares_one(self):
        told = steadies(book_of(group_of(samples.TABLES["sixteen with all squares one"])))
        self.assertEqual([len(part) for part in told], [1] + [2] * 15 + [4] * 35 + [8] * 15 + [16])


class NothingIsChanged(unittest.TestCase):
    def test_what_is_told_is_the_askers_own(self):
        book = book_of(group_of(samples.SQUARE))
        rows, kinds = copy.deepcopy(book.rows), copy.deepcopy(book.classes)
        first = (steadies(book), [still(way) for way in book.ways])
        kept = copy.deepcopy(first)
        for lists in first:
            for some in lists:
                some.append(9)
                some[0] = 9
            lists.pop()
        self.assertEqual((steadies(book), [still(way) for way in book.ways]), kept)
        self.assertEqual((book.rows, book.classes), (rows, kinds))


if __name__ == "__main__":
    unittest.main()
