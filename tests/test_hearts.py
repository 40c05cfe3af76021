import copy
import inspect
import itertools
import unittest

from tests import samples
from tracebook.hearts import heart
from tracebook.tables import group_of


def heart_found(table):
    """The heart as the document finds it."""
    things = range(len(table))
    found = samples.mixed_part(table, things)
    for a in things:
        if all(table[a][h] == table[h][a] for h in found):
            found = samples.least_part(table, [*found, a])
    return found


def leads(table, part, thing):
    """Whether each thing is one of the part times a power of this thing."""
    powers = samples.least_part(table, [thing])
    return {table[h][p] for h in part for p in powers} == set(range(len(table)))


class Heart(unittest.TestCase):
    def test_names_and_arguments(self):
        self.assertEqual(list(inspect.signature(heart).parameters), ["group"])

    def test_all_things_where_they_go_with_one_another(self):
        for many in range(1, 24):
            self.assertEqual(heart(group_of(samples.cyclic(many))), (list(range(many)), 0))
        for name in ("four with all squares one", "sixteen with all squares one, shuffled", "cyclic 12, shuffled"):
            group = group_of(samples.TABLES[name])
            self.assertEqual(heart(group), (list(range(group.many)), 0))

    def test_some_others(self):
        wanted = {
            "symmetric 3": ([0, 1, 2], 3),
            "square": ([0, 1, 2, 3], 4),
            "quaternion": ([0, 1, 2, 3], 4),
            "even 4": ([0, 3, 8, 11], 1),
            "twelve, dicyclic": ([0, 1, 2, 3, 4, 5], 6),
            "sixteen, modular": ([0, 1, 2, 3, 4, 5, 6, 7], 8),
            "twenty": ([0, 1, 2, 3, 4], 5),
            "twenty-one": (list(range(7)), 7),
            "twenty-two": (list(range(11)), 11),
        }
        for name, told in wanted.items():
            with self.subTest(name):
                self.assertEqual(heart(group_of(samples.TABLES[name])), told)

    def test_the_names_of_the_things_tell_which_are_taken_in_first(self):
        group = group_of(samples.renamed(samples.SQUARE, [0, 6, 2, 7, 1, 4, 3, 5]))
        self.assertEqual(heart(group), ([0, 1, 2, 3], 4))
        self.assertEqual(group.rows[6][6], 2)

    def test_the_least_leading_thing_need_not_be_the_least_outside(self):
        names = [0, 2, 3, 4, 5, *range(10, 15), 1, *range(6, 10), *range(15, 20)]
        group = group_of(samples.renamed(samples.TABLES["twenty"], names))
        self.assertEqual(heart(group), ([0, 2, 3, 4, 5], 10))

    def test_every_group(self):
        for name, group, table in samples.every_group() + samples.groups():
            with self.subTest(name):
                told = heart(group)
                self.assertIsInstance(told, tuple)
                self.assertEqual(told[0], heart_found(table))
                leading = [t for t in range(group.many) if leads(table, told[0], t)]
                self.assertEqual(told[1], leading[0])

    def test_what_the_document_tells_of_each_heart(self):
        for name, group, table in samples.every_group():
            with self.subTest(name):
                found = heart(group)[0]
                for a, b in itertools.product(found, repeat=2):
                    self.assertEqual(table[a][b], table[b][a])
                self.assertIsNone(samples.first_lead_out(table, found))

    def test_what_is_told_is_the_askers_own(self):
        group = group_of(samples.SQUARE)
        before = copy.deepcopy(vars(group))
        told = heart(group)
        told[0].append(9)
        self.assertEqual(heart(group), ([0, 1, 2, 3], 4))
        self.assertEqual(vars(group), before)


class EveryGroup(unittest.TestCase):
    def test_the_samples_are_59_unlike_groups(self):
        prints = set()
        for table in samples.EVERY_TABLE.values():
            things = range(len(table))
            prints.add(tuple(sorted(
                (
                    len(samples.least_part(table, [a])),
                    len({samples.turned_in(table, a, t) for t in things}),
                    sum(table[b][b] == a for b in things),
                )
                for a in things
            )))
        self.assertEqual(len(prints), 59)


if __name__ == "__main__":
    unittest.main()
