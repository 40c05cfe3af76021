import copy
import inspect
import itertools
import unittest

from tests import samples
from tests.samples import GREAT
from tracebook import parts as module
from tracebook.errors import BookError, NoPart, NotSteady
from tracebook.parts import closure, folded, inner, mixed, sides, way_out
from tracebook.tables import Group, group_of, product

ASKS = (mixed, sides, way_out, folded, inner)


class Interface(unittest.TestCase):
    def test_names_and_arguments(self):
        wanted = {
            "closure": ["group", "some"],
            "mixed": ["group", "part"],
            "sides": ["group", "part"],
            "way_out": ["group", "part"],
            "folded": ["group", "part"],
            "inner": ["group", "part"],
        }
        for name, arguments in wanted.items():
            with self.subTest(name):
                self.assertEqual(list(inspect.signature(getattr(module, name)).parameters), arguments)


class NoParts(unittest.TestCase):
    def refused(self, ask, group, some):
        kept = list(some)
        with self.assertRaises(BookError) as caught:
            ask(group, some)
        self.assertIs(caught.exception.__class__, NoPart)
        self.assertEqual(vars(caught.exception), {})
        self.assertEqual(some, kept)

    def test_each_sort_is_refused_by_each_ask(self):
        for name in ("cyclic 6", "cyclic 23, shuffled", "symmetric 3", "quaternion, shuffled", "twenty-one"):
            group = group_of(samples.TABLES[name])
            for sort, some in samples.no_parts(group.rows).items():
                for ask in ASKS:
                    with self.subTest(name, sort=sort, ask=ask.__name__):
                        self.refused(ask, group, some)

    def test_a_group_of_one_thing(self):
        group = group_of([[0]])
        for ask in ASKS:
            for some in ([], [1], [-1], [0, 0], [0, 1], [GREAT]):
                with self.subTest(ask=ask.__name__, some=some):
                    self.refused(ask, group, some)
            self.assertNotEqual(samples.outcome(ask, group, [0]), ("NoPart", {}))

    def test_of_all_rising_lists_just_the_parts_are_taken(self):
        for name in ("symmetric 3", "square, shuffled", "quaternion", "cyclic 6, shuffled"):
            group = group_of(samples.TABLES[name])
            found = []
            for many in range(group.many + 1):
                for some in map(list, itertools.combinations(range(group.many), many)):
                    told = [samples.outcome(ask, group, some) != ("NoPart", {}) for ask in ASKS]
                    self.assertEqual(told, [samples.is_part(group.rows, some)] * len(ASKS), (name, some))
                    if told[0]:
                        found.append(some)
            with self.subTest(name):
                self.assertEqual(sorted(found), samples.parts(group.rows))

    def test_of_all_short_lists_in_any_order_just_the_parts_are_taken(self):
        for name in ("symmetric 3, shuffled", "four with all squares one"):
            group = group_of(samples.TABLES[name])
            for many in (1, 2, 3, 4):
                for some in map(list, itertools.product(range(-1, group.many + 1), repeat=many)):
                    told = samples.outcome(mixed, group, some) != ("NoPart", {})
                    self.assertEqual(told, samples.is_part(group.rows, some), (name, some))

    def test_every_part_of_every_group_is_taken(self):
        for name, group, table in samples.every_group():
            for part in samples.parts(table):
                for ask in ASKS:
                    self.assertNotEqual(samples.outcome(ask, group, part), ("NoPart", {}), (name, part))

    def test_a_refusal_changes_nothing(self):
        group = group_of(samples.SQUARE)
        before = copy.deepcopy(vars(group))
        first = [samples.outcome(ask, group, [0, 4]) for ask in (mixed, sides, way_out, folded)]
        for some in samples.no_parts(samples.SQUARE).values():
            for ask in ASKS:
                self.refused(ask, group, some)
        self.assertEqual(vars(group), before)
        self.assertEqual([samples.outcome(ask, group, [0, 4]) for ask in (mixed, sides, way_out, folded)], first)


class Closure(unittest.TestCase):
    def check(self, group, some):
        kept = list(some)
        told = closure(group, some)
        self.assertEqual(some, kept)
        self.assertIsInstance(told, tuple)
        part, words = told
        self.assertEqual(part, samples.least_part(group.rows, some))
        self.assertEqual(len(words), len(part))
        for thing, word in zip(part, words):
            self.assertIsInstance(word, list)
            self.assertLessEqual(len(word), group.many)
            self.assertLessEqual(set(word), set(some))
            self.assertEqual(product(group, word), thing)
        self.assertEqual(words[part.index(group.unit)], [])

    def test_no_thing(self):
        for name, group, table in samples.groups():
            with self.subTest(name):
                self.assertEqual(closure(group, []), ([group.unit], [[]]))

    def test_the_unit(self):
        for name, group, table in samples.groups():
            with self.subTest(name):
                self.assertEqual(closure(group, [group.unit]), ([group.unit], [[]]))
                self.assertEqual(closure(group, [group.unit] * 240), ([group.unit], [[]]))

    def test_one_thing_of_prime_order_has_one_word_for_each(self):
        group = group_of(samples.cyclic(23))
        self.assertEqual(closure(group, [1]), (list(range(23)), [[1] * k for k in range(23)]))
        self.assertEqual(closure(group, [22])[1][1], [22] * 22)

    def test_one_thing(self):
        for name, group, table in samples.every_group():
            with self.subTest(name):
                for thing in range(group.many):
                    self.check(group, [thing])

    def test_two_things_in_any_order(self):
        for name, group, table in samples.groups():
            with self.subTest(name):
                for one, other in itertools.product(range(group.many), repeat=2):
                    self.check(group, [one, other])

    def test_three_things(self):
        for name in ("sixteen with all squares one", "square, shuffled", "even 4"):
            group = group_of(samples.TABLES[name])
            with self.subTest(name):
                for some in itertools.permutations(range(group.many), 3):
                    self.check(group, list(some))

    def test_many_things_with_doubles(self):
        for name, group, table in samples.groups():
            with self.subTest(name):
                for step in (1, 2, 3, 5, 7):
                    self.check(group, [step * k * k % group.many for k in range(240)])
                self.check(group, list(range(group.many))[::-1])
                self.check(group, list(range(group.many)) * 5)

    def test_a_part_is_its_own_closure(self):
        for name, group, table in samples.groups():
            with self.subTest(name):
                for part in samples.parts(table):
                    self.assertEqual(closure(group, part)[0], part)
                    self.check(group, part)

    def test_the_lists_are_the_askers_own(self):
        group = group_of(samples.SYMMETRIC_3)
        some = [1, 3]
        told = closure(group, some)
        first = copy.deepcopy(told)
        some.append(5)
        some[0] = 0
        self.assertEqual(told, first)
        told[0].append(99)
        for word in told[1]:
            word.append(99)
        told[1].pop()
        self.assertEqual(closure(group, [1, 3]), first)


class Mixed(unittest.TestCase):
    def test_some_groups(self):
        wanted = {
            "one thing": [0],
            "cyclic 23": [0],
            "sixteen with all squares one": [0],
            "symmetric 3": [0, 1, 2],
            "square": [0, 2],
            "quaternion": [0, 2],
            "even 4": [0, 3, 8, 11],
            "twelve, dicyclic": [0, 2, 4],
            "sixteen, modular": [0, 4],
            "eighteen": [0, 3, 6],
            "twenty": [0, 1, 2, 3, 4],
            "twenty-one": list(range(7)),
            "twenty-two": list(range(11)),
        }
        for name, told in wanted.items():
            with self.subTest(name):
                group = group_of(samples.TABLES[name])
                self.assertEqual(mixed(group, list(range(group.many))), told)

    def test_only_the_unit_where_things_go_with_one_another(self):
        for name, group, table in samples.every_group():
            for part in samples.parts(table):
                all_go = all(table[a][b] == table[b][a] for a in part for b in part)
                self.assertEqual(mixed(group, part) == [group.unit], all_go, (name, part))

    def test_all_parts_of_all_groups(self):
        for name, group, table in samples.every_group():
            for part in samples.parts(table):
                kept = list(part)
                self.assertEqual(mixed(group, part), samples.mixed_part(table, part), (name, part))
                self.assertEqual(part, kept)

    def test_the_list_is_the_askers_own(self):
        group = group_of(samples.SQUARE)
        part = list(range(8))
        told = mixed(group, part)
        part.pop()
        self.assertEqual(told, [0, 2])
        told.append(1)
        self.assertEqual(mixed(group, list(range(8))), [0, 2])


class Sides(unittest.TestCase):
    def test_the_thing_stands_left_of_the_part(self):
        group = group_of(samples.SYMMETRIC_3)
        self.assertEqual(sides(group, [0, 3]), [[0, 3], [1, 4], [2, 5]])
        self.assertEqual(sides(group, [0, 4]), [[0, 4], [1, 5], [2, 3]])
        self.assertEqual(sides(group, [0, 1, 2]), [[0, 1, 2], [3, 4, 5]])

    def test_left_and_right_are_told_apart(self):
        group = group_of(samples.TABLES["twenty-one"])
        self.assertEqual(sides(group, [0, 7, 14])[1], [1, 8, 15])
        self.assertEqual(sides(group, [0, 8, 17])[1], sorted([1, group.rows[1][8], group.rows[1][17]]))
        self.assertNotEqual(sides(group, [0, 8, 17])[1], sorted([1, group.rows[8][1], group.rows[17][1]]))

    def test_the_least_and_the_greatest_part(self):
        for name, group, table in samples.groups():
            with self.subTest(name):
                full = list(range(group.many))
                self.assertEqual(sides(group, [group.unit]), [[thing] for thing in full])
                self.assertEqual(sides(group, full), [full])

    def test_the_first_side_is_that_of_thing_0_not_always_the_part(self):
        group = group_of(samples.shuffled(samples.cyclic(6)))
        part = samples.least_part(group.rows, [next(a for a in range(5) if group.rows[a][a] == 5)])
        told = sides(group, part)
        self.assertEqual(told[0][0], 0)
        self.assertNotIn(5, told[0])
        self.assertIn(part, told)

    def test_all_parts_of_all_groups(self):
        for name, group, table in samples.every_group():
            for part in samples.parts(table):
                kept = list(part)
                every = {tuple(sorted(table[a][h] for h in part)) for a in range(group.many)}
                wanted = [list(side) for side in sorted(every)]
                self.assertEqual(sides(group, part), wanted, (name, part))
                self.assertEqual(part, kept)

    def test_the_lists_are_the_askers_own(self):
        group = group_of(samples.SYMMETRIC_3)
        part = [0, 3]
        told = sides(group, part)
        part[1] = 9
        self.assertEqual(told, [[0, 3], [1, 4], [2, 5]])
        told[0].append(9)
        told[1][0] = 9
        told.pop()
        self.assertEqual(sides(group, [0, 3]), [[0, 3], [1, 4], [2, 5]])


class WayOut(unittest.TestCase):
    def test_steady_parts(self):
        group = group_of(samples.SYMMETRIC_3)
        for part in ([0], [0, 1, 2], [0, 1, 2, 3, 4, 5]):
            self.assertIsNone(way_out(group, part))
        for part in samples.parts(samples.QUATERNION):
            self.assertIsNone(way_out(group_of(samples.QUATERNION), part))

    def test_parts_that_are_not_steady(self):
        group = group_of(samples.SYMMETRIC_3)
        self.assertEqual([way_out(group, [0, h]) for h in (3, 4, 5)], [(1, 3), (1, 4), (1, 5)])
        self.assertEqual(way_out(group_of(samples.SQUARE), [0, 4]), (1, 4))

    def test_nothing_is_led_out_where_things_go_with_one_another(self):
        for many in range(1, 24):
            group = group_of(samples.cyclic(many))
            for part in samples.parts(group.rows):
                self.assertIsNone(way_out(group, part))

    def test_all_parts_of_all_groups(self):
        seen = []
        for name, group, table in samples.every_group():
            for part in samples.parts(table):
                kept = list(part)
                told = way_out(group, part)
                self.assertEqual(told, samples.first_lead_out(table, part), (name, part))
                self.assertEqual(part, kept)
                seen.append(told)
        self.assertTrue(any(told is not None and told[0] > 1 for told in seen))
        for told in seen:
            self.assertTrue(told is None or isinstance(told, tuple))


class Folded(unittest.TestCase):
    def test_square_by_its_middle(self):
        group, numbers = folded(group_of(samples.SQUARE), [0, 2])
        self.assertEqual(numbers, [0, 1, 0, 1, 2, 3, 2, 3])
        self.assertEqual((group.many, group.unit, group.backs), (4, 0, [0, 1, 2, 3]))
        self.assertEqual(group.rows, [[0, 1, 2, 3], [1, 0, 3, 2], [2, 3, 0, 1], [3, 2, 1, 0]])

    def test_by_the_unit_and_by_all_things(self):
        for name, group, table in samples.groups():
            with self.subTest(name):
                same, numbers = folded(group, [group.unit])
                self.assertEqual(vars(same), vars(group))
                self.assertEqual(numbers, list(range(group.many)))
                least, numbers = folded(group, list(range(group.many)))
                self.assertEqual((least.many, least.rows, least.unit, least.backs), (1, [[0]], 0, [0]))
                self.assertEqual(numbers, [0] * group.many)

    def test_another_unit_than_0(self):
        group, numbers = folded(group_of(samples.shuffled(samples.cyclic(6))), [2, 5])
        self.assertEqual((group.many, group.unit), (3, 2))
        self.assertEqual(numbers[5], 2)
        self.assertEqual(group.backs, [1, 0, 2])

    def test_not_steady(self):
        group = group_of(samples.SYMMETRIC_3)
        for h in (3, 4, 5):
            with self.assertRaises(BookError) as caught:
                folded(group, [0, h])
            self.assertIs(caught.exception.__class__, NotSteady)
            self.assertEqual(vars(caught.exception), {"turner": 1, "thing": h})
            self.assertEqual((caught.exception.turner, caught.exception.thing), (1, h))

    def test_no_part_before_not_steady(self):
        group = group_of(samples.SYMMETRIC_3)
        for some in ([3], [0, 3, 4], [3, 0], [0, 3, 3]):
            self.assertEqual(samples.outcome(folded, group, some), ("NoPart", {}))

    def test_all_parts_of_all_groups(self):
        for name, group, table in samples.every_group():
            for part in samples.parts(table):
                kept = list(part)
                out = samples.first_lead_out(table, part)
                told = samples.outcome(folded, group, part)
                self.assertEqual(part, kept)
                if out is None:
                    self.check(name, group, part, told)
                else:
                    self.assertEqual(told, ("NotSteady", {"turner": out[0], "thing": out[1]}), (name, part))

    def check(self, name, group, part, told):
        self.assertIsInstance(told, tuple)
        made, numbers = told
        self.assertIsInstance(made, Group)
        wanted = [None] * group.many
        for number, side in enumerate(sides(group, part)):
            for thing in side:
                wanted[thing] = number
        self.assertEqual(numbers, wanted, (name, part))
        self.assertEqual(made.many * len(part), group.many)
        for a, b in itertools.product(range(group.many), repeat=2):
            self.assertEqual(made.rows[numbers[a]][numbers[b]], numbers[group.rows[a][b]], (name, part))
        self.assertEqual(made.unit, numbers[group.unit])
        self.assertEqual([made.backs[numbers[a]] for a in range(group.many)], [numbers[b] for b in group.backs])

    def test_what_is_told_is_the_askers_own(self):
        group = group_of(samples.SQUARE)
        part = [0, 2]
        made, numbers = folded(group, part)
        rows = copy.deepcopy(made.rows)
        part.append(4)
        numbers[3] = 77
        self.assertEqual(made.rows, rows)
        again, others = folded(group, [0, 2])
        self.assertEqual(others, [0, 1, 0, 1, 2, 3, 2, 3])
        self.assertEqual(again.rows, rows)
        self.assertIsNot(again.rows[0], made.rows[0])
        self.assertIsNot(folded(group, [0])[0].rows[0], group.rows[0])


class Inner(unittest.TestCase):
    def test_a_part_of_the_symmetric_group(self):
        made = inner(group_of(samples.SYMMETRIC_3), [0, 4])
        self.assertEqual((made.many, made.rows, made.unit, made.backs), (2, [[0, 1], [1, 0]], 0, [0, 1]))

    def test_all_things(self):
        for name, group, table in samples.groups():
            with self.subTest(name):
                made = inner(group, list(range(group.many)))
                self.assertEqual(vars(made), vars(group))
                self.assertIsNot(made.rows[0], group.rows[0])

    def test_the_unit_alone(self):
        for name, group, table in samples.groups():
            with self.subTest(name):
                made = inner(group, [group.unit])
                self.assertEqual((made.many, made.rows, made.unit, made.backs), (1, [[0]], 0, [0]))

    def test_another_unit_than_0(self):
        group = group_of(samples.shuffled(samples.cyclic(6)))
        made = inner(group, [1, 3, 5])
        self.assertEqual((made.many, made.unit, made.backs), (3, 2, [1, 0, 2]))

    def test_all_parts_of_all_groups(self):
        for name, group, table in samples.every_group():
            for part in samples.parts(table):
                kept = list(part)
                made = inner(group, part)
                self.assertEqual(part, kept)
                self.assertIsInstance(made, Group)
                self.assertEqual(made.many, len(part))
                rows = [[part[k] for k in row] for row in made.rows]
                self.assertEqual(rows, [[table[a][b] for b in part] for a in part])
                self.assertEqual(part[made.unit], group.unit)
                self.assertEqual([part[k] for k in made.backs], [group.backs[a] for a in part])

    def test_the_part_may_be_changed_behind_the_call(self):
        part = [0, 1, 2]
        made = inner(group_of(samples.SYMMETRIC_3), part)
        part[0] = 5
        part.pop()
        self.assertEqual(made.rows, samples.cyclic(3))
        self.assertEqual(made.many, 3)


class NothingIsChanged(unittest.TestCase):
    def test_asking_changes_nothing_of_the_group(self):
        for name, group, table in samples.groups():
            before = copy.deepcopy(vars(group))
            for part in samples.parts(table):
                closure(group, part)
                for ask in ASKS:
                    samples.outcome(ask, group, part)
            with self.subTest(name):
                self.assertEqual(vars(group), before)


if __name__ == "__main__":
    unittest.main()
