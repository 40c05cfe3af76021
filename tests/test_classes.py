import copy
import inspect
import itertools
import unittest

from tests import samples
from tracebook import classes as module
from tracebook.classes import classes, middle, turner
from tracebook.tables import group_of


class Interface(unittest.TestCase):
    def test_names_and_arguments(self):
        wanted = {"classes": ["group"], "turner": ["group", "thing", "other"], "middle": ["group"]}
        for name, arguments in wanted.items():
            with self.subTest(name):
                self.assertEqual(list(inspect.signature(getattr(module, name)).parameters), arguments)


class Classes(unittest.TestCase):
    def test_one_thing(self):
        self.assertEqual(classes(group_of([[0]])), [[0]])

    def test_each_thing_alone_where_all_go_with_one_another(self):
        self.assertEqual(classes(group_of(samples.cyclic(23))), [[k] for k in range(23)])

    def test_some_groups(self):
        wanted = {
            "symmetric 3": [[0], [1, 2], [3, 4, 5]],
            "square": [[0], [1, 3], [2], [4, 6], [5, 7]],
            "quaternion": [[0], [1, 3], [2], [4, 6], [5, 7]],
            "twenty": [[0], [1, 2, 3, 4], [5, 6, 7, 8, 9], [10, 11, 12, 13, 14], [15, 16, 17, 18, 19]],
            "twenty-one": [[0], [1, 2, 4], [3, 5, 6], list(range(7, 14)), list(range(14, 21))],
        }
        for name, told in wanted.items():
            with self.subTest(name):
                self.assertEqual(classes(group_of(samples.TABLES[name])), told)

    def test_a_group_with_another_unit(self):
        group = group_of(samples.renamed(samples.SYMMETRIC_3, [4, 5, 0, 3, 1, 2]))
        self.assertEqual(classes(group), [[0, 5], [1, 2, 3], [4]])

    def test_how_many_of_which_size(self):
        wanted = {
            "even 4": [1, 3, 4, 4],
            "twelve, dicyclic": [1, 1, 2, 2, 3, 3],
            "sixteen, modular": [1, 1, 1, 1, 2, 2, 2, 2, 2, 2],
            "twenty-two": [1, 2, 2, 2, 2, 2, 11],
        }
        for name, sizes in wanted.items():
            for full in (name, name + ", shuffled"):
                with self.subTest(full):
                    told = classes(group_of(samples.TABLES[full]))
                    self.assertEqual(sorted(len(one) for one in told), sizes)

    def test_rising_and_ordered_by_their_least_things_and_each_thing_once(self):
        for name, group, table in samples.groups():
            with self.subTest(name):
                told = classes(group)
                for one in told:
                    self.assertEqual(one, sorted(one))
                self.assertEqual([one[0] for one in told], sorted(min(one) for one in told))
                self.assertEqual(sorted(sum(told, [])), list(range(group.many)))

    def test_two_are_of_one_class_just_where_one_is_turned_into_the_other(self):
        for name, group, table in samples.groups():
            with self.subTest(name):
                number = {thing: k for k, one in enumerate(classes(group)) for thing in one}
                things = range(group.many)
                for a, c in itertools.product(things, repeat=2):
                    turned = any(table[t][a] == table[c][t] for t in things)
                    self.assertEqual(number[a] == number[c], turned)

    def test_the_lists_are_the_askers_own(self):
        group = group_of(samples.SQUARE)
        before = copy.deepcopy(vars(group))
        told = classes(group)
        told[1].append(99)
        told[0][0] = 7
        told.pop()
        self.assertEqual(classes(group), [[0], [1, 3], [2], [4, 6], [5, 7]])
        self.assertEqual(told, [[7], [1, 3, 99], [2], [4, 6]])
        self.assertEqual(middle(group), [0, 2])
        self.assertEqual(vars(group), before)


class Turner(unittest.TestCase):
    def test_symmetric_group(self):
        group = group_of(samples.SYMMETRIC_3)
        told = [[turner(group, a, c) for c in range(6)] for a in range(6)]
        self.assertEqual(told, [
            [0, None, None, None, None, None],
            [None, 0, 3, None, None, None],
            [None, 3, 0, None, None, None],
            [None, None, None, 0, 2, 1],
            [None, None, None, 1, 0, 2],
            [None, None, None, 2, 1, 0],
        ])

    def test_it_turns_by_the_turner_first_and_its_back_last(self):
        group = group_of(samples.TABLES["twenty-one"])
        self.assertEqual(turner(group, 1, 2), 7)
        self.assertEqual(turner(group, 2, 1), 14)

    def test_none_between_classes(self):
        group = group_of(samples.cyclic(23))
        self.assertIsNone(turner(group, 0, 22))
        self.assertIsNone(turner(group, 5, 4))
        self.assertIsNone(turner(group_of(samples.QUATERNION), 0, 2))

    def test_it_is_the_least_thing(self):
        for name, group, table in samples.groups():
            with self.subTest(name):
                things = range(group.many)
                for a, c in itertools.product(things, repeat=2):
                    wanted = next((t for t in things if table[t][a] == table[c][t]), None)
                    self.assertEqual(turner(group, a, c), wanted)

    def test_the_least_thing_need_not_be_the_unit(self):
        group = group_of(samples.shuffled(samples.cyclic(6)))
        self.assertEqual(group.unit, 5)
        self.assertEqual([turner(group, a, a) for a in range(6)], [0] * 6)


class Middle(unittest.TestCase):
    def test_some_groups(self):
        wanted = {
            "one thing": [0],
            "cyclic 23": list(range(23)),
            "symmetric 3": [0],
            "square": [0, 2],
            "quaternion": [0, 2],
            "even 4": [0],
            "twelve, dicyclic": [0, 3],
            "sixteen, modular": [0, 2, 4, 6],
            "eighteen": [0, 1, 2],
            "twenty-two": [0],
        }
        for name, told in wanted.items():
            with self.subTest(name):
                self.assertEqual(middle(group_of(samples.TABLES[name])), told)

    def test_all_samples(self):
        for name, group, table in samples.groups():
            with self.subTest(name):
                things = range(group.many)
                wanted = [a for a in things if table[a] == [table[b][a] for b in things]]
                self.assertEqual(middle(group), wanted)

    def test_the_list_is_the_askers_own(self):
        group = group_of(samples.QUATERNION)
        told = middle(group)
        told.append(5)
        self.assertEqual(middle(group), [0, 2])
        self.assertEqual(told, [0, 2, 5])


class NothingIsChanged(unittest.TestCase):
    def test_asking_changes_nothing_of_the_group(self):
        for name, group, table in samples.groups():
            with self.subTest(name):
                before = copy.deepcopy(vars(group))
                classes(group)
                turner(group, 0, group.many - 1)
                middle(group)
                self.assertEqual(vars(group), before)


if __name__ == "__main__":
    unittest.main()
