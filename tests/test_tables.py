import copy
import inspect
import itertools
import unittest

from tests import samples
from tests.samples import GREAT
from tracebook import tables
from tracebook.errors import BadSize, BookError, NoBack, NotTogether, NoUnit, Stranger
from tracebook.tables import Group, group_of, order, power, product, turns


def answer(table):
    """group_of's answer in the form in which samples.verdict tells it."""
    try:
        group = group_of(table)
    except BookError as refusal:
        return (refusal.__class__.__name__, *vars(refusal).values())
    return ("group", group.unit, group.backs)


def all_tables(many):
    for numbers in itertools.product(range(many), repeat=many * many):
        yield [list(numbers[many * a:many * a + many]) for a in range(many)]


def with_number(table, row, column, number):
    changed = copy.deepcopy(table)
    changed[row][column] = number
    return changed


class Interface(unittest.TestCase):
    def test_names_and_arguments(self):
        wanted = {
            "group_of": ["table"],
            "product": ["group", "things"],
            "power": ["group", "thing", "many"],
            "order": ["group", "thing"],
            "turns": ["group"],
        }
        for name, arguments in wanted.items():
            with self.subTest(name):
                self.assertEqual(list(inspect.signature(getattr(tables, name)).parameters), arguments)

    def test_group_of_tells_a_group(self):
        self.assertIsInstance(group_of([[0]]), Group)


class Refusals(unittest.TestCase):
    def refused(self, kind, table, **fields):
        kept = copy.deepcopy(table)
        with self.assertRaises(BookError) as caught:
            group_of(table)
        self.assertIs(caught.exception.__class__, kind)
        self.assertEqual(vars(caught.exception), fields)
        self.assertEqual(table, kept)

    def test_no_row(self):
        self.refused(BadSize, [])

    def test_one_row_without_numbers(self):
        self.refused(BadSize, [[]])

    def test_twenty_four_rows_and_more(self):
        for many in (24, 25, 240, 300):
            with self.subTest(many):
                self.refused(BadSize, samples.cyclic(many))

    def test_rows_too_short_and_too_long(self):
        for many in (1, 2, 5, 23):
            for place in {0, many // 2, many - 1}:
                with self.subTest(many, place=place):
                    short = samples.cyclic(many)
                    short[place].pop()
                    self.refused(BadSize, short)
                    long = samples.cyclic(many)
                    long[place].append(0)
                    self.refused(BadSize, long)

    def test_rows_alike_but_not_as_many(self):
        self.refused(BadSize, samples.cyclic(3)[:2])
        self.refused(BadSize, samples.cyclic(3) + [[0, 1, 2]])

    def test_strangers_at_any_place(self):
        for many in (1, 2, 5):
            for row, column in itertools.product(range(many), repeat=2):
                for number in (-1, -many, many, many + 1, GREAT, -GREAT):
                    with self.subTest(many, row=row, column=column, number=number):
                        table = with_number(samples.cyclic(many), row, column, number)
                        self.refused(Stranger, table, row=row, column=column)

    def test_strangers_in_the_greatest_table(self):
        table = samples.cyclic(23)
        self.refused(Stranger, with_number(table, 22, 22, 23), row=22, column=22)
        self.refused(Stranger, with_number(table, 22, 0, -1), row=22, column=0)
        self.refused(Stranger, with_number(table, 0, 22, GREAT), row=0, column=22)

    def test_first_of_two_strangers(self):
        table = with_number(with_number(samples.cyclic(4), 2, 0, 4), 1, 3, -1)
        self.refused(Stranger, table, row=1, column=3)
        table = with_number(with_number(samples.cyclic(4), 2, 3, -1), 2, 1, 9)
        self.refused(Stranger, table, row=2, column=1)

    def test_no_unit(self):
        self.refused(NoUnit, [[1, 0], [0, 0]])

    def test_a_unit_from_one_side_is_none(self):
        self.refused(NoUnit, [[0, 1, 2]] * 3)
        self.refused(NoUnit, [[0, 0, 0], [1, 1, 1], [2, 2, 2]])

    def test_no_back(self):
        self.refused(NoBack, [[0, 1], [1, 1]], thing=1)
        self.refused(NoBack, [[0, 0], [0, 1]], thing=0)

    def test_least_thing_without_back(self):
        self.refused(NoBack, [[0, 1, 2, 3], [1, 0, 3, 2], [2, 3, 2, 2], [3, 2, 2, 3]], thing=2)

    def test_a_back_from_one_side_is_none(self):
        self.refused(NoBack, [[0, 1, 2], [1, 1, 0], [2, 2, 2]], thing=1)

    def test_not_together(self):
        self.refused(NotTogether, [[0, 1, 2], [1, 0, 1], [2, 1, 0]], one=1, two=1, three=2)

    def test_not_together_with_each_thing_once_in_every_row_and_column(self):
        table = [[0, 1, 2, 3, 4], [1, 0, 3, 4, 2], [2, 4, 0, 1, 3], [3, 2, 4, 0, 1], [4, 3, 1, 2, 0]]
        self.refused(NotTogether, table, one=1, two=1, three=2)

    def test_first_three_by_the_first_then_the_second_then_the_third(self):
        table = samples.cyclic(23)
        self.refused(NotTogether, with_number(table, 22, 22, 0), one=1, two=21, three=22)

    def test_size_before_strangers(self):
        self.refused(BadSize, [[0, 7], [1, 0, 0]])
        self.refused(BadSize, with_number(samples.cyclic(24), 0, 0, -1))

    def test_strangers_before_no_unit(self):
        self.refused(Stranger, [[1, 1], [0, 2]], row=1, column=1)

    def test_no_unit_before_not_together(self):
        table = [[1, 0], [0, 0]]
        self.assertNotEqual(table[table[0][0]][1], table[0][table[0][1]])
        self.refused(NoUnit, table)

    def test_no_back_before_not_together(self):
        table = [[0, 1, 2], [1, 2, 2], [2, 2, 1]]
        self.assertNotEqual(table[table[1][1]][2], table[1][table[1][2]])
        self.refused(NoBack, table, thing=1)

    def test_every_table_of_at_most_three_things(self):
        for many in (1, 2, 3):
            for table in all_tables(many):
                if answer(table) != samples.verdict(table):
                    self.assertEqual(answer(table), samples.verdict(table), table)

    def test_every_group_with_one_number_changed(self):
        for name in ("square", "quaternion", "quaternion, shuffled", "even 4, shuffled"):
            table = samples.TABLES[name]
            many = len(table)
            for row, column in itertools.product(range(many), repeat=2):
                number = (table[row][column] + 1 + row % (many - 1)) % many
                changed = with_number(table, row, column, number)
                with self.subTest(name, row=row, column=column):
                    self.assertEqual(answer(changed), samples.verdict(changed))

    def test_a_refusal_changes_nothing(self):
        group = group_of(samples.SQUARE)
        before = copy.deepcopy(vars(group))
        for table in ([], [[1]], [[1, 0], [0, 0]], [[0, 1], [1, 1]], [[0, 1, 2], [1, 0, 1], [2, 1, 0]]):
            first = answer(table)
            self.assertNotEqual(first[0], "group")
            self.assertEqual(answer(table), first)
        self.assertEqual(vars(group), before)
        self.assertEqual(vars(group_of(samples.SQUARE)), before)


class Fields(unittest.TestCase):
    def test_one_thing(self):
        group = group_of([[0]])
        self.assertEqual((group.many, group.rows, group.unit, group.backs), (1, [[0]], 0, [0]))

    def test_three_things_with_unit_2(self):
        group = group_of([[1, 2, 0], [2, 0, 1], [0, 1, 2]])
        self.assertEqual((group.many, group.unit, group.backs), (3, 2, [1, 0, 2]))

    def test_things_that_do_not_go_with_one_another(self):
        group = group_of(samples.QUATERNION)
        self.assertEqual((group.many, group.unit, group.backs), (8, 0, [0, 3, 2, 1, 6, 7, 4, 5]))

    def test_twenty_three_things(self):
        group = group_of(samples.cyclic(23))
        self.assertEqual((group.many, group.unit, group.backs), (23, 0, [0] + list(range(22, 0, -1))))

    def test_all_samples(self):
        for name, group, table in samples.groups():
            with self.subTest(name):
                self.assertEqual(group.many, len(table))
                self.assertEqual(group.rows, table)
                self.assertEqual(answer(table), samples.verdict(table))
                for thing, back in enumerate(group.backs):
                    self.assertEqual(table[thing][back], group.unit)
                    self.assertEqual(table[back][thing], group.unit)

    def test_the_samples_have_units_other_than_0(self):
        self.assertIn(22, [group.unit for name, group, table in samples.groups()])

    def test_the_table_stays_as_it_was(self):
        table = copy.deepcopy(samples.EVEN_4)
        group_of(table)
        self.assertEqual(table, samples.EVEN_4)

    def test_a_change_of_the_table_changes_nothing_of_the_group(self):
        table = copy.deepcopy(samples.SYMMETRIC_3)
        group = group_of(table)
        before = copy.deepcopy(vars(group))
        table[1][1] = 0
        table[2] = [9]
        table.append([])
        self.assertEqual(vars(group), before)
        self.assertEqual(product(group, [1, 1, 3]), 5)

    def test_the_rows_are_made_anew(self):
        table = samples.cyclic(4)
        one = group_of(table)
        other = group_of(table)
        for a, b in ((one.rows, table), (one.rows, other.rows), (one.backs, other.backs)):
            self.assertIsNot(a, b)
        for k in range(4):
            self.assertIsNot(one.rows[k], table[k])
            self.assertIsNot(one.rows[k], other.rows[k])


class Products(unittest.TestCase):
    def test_none_and_one(self):
        for name, group, table in samples.groups():
            with self.subTest(name):
                self.assertEqual(product(group, []), group.unit)
                for thing in range(group.many):
                    self.assertEqual(product(group, [thing]), thing)

    def test_two_are_put_together_the_first_one_first(self):
        for name, group, table in samples.groups():
            with self.subTest(name):
                for a, b in itertools.product(range(group.many), repeat=2):
                    self.assertEqual(product(group, [a, b]), table[a][b])

    def test_three_of_the_symmetric_group(self):
        group = group_of(samples.SYMMETRIC_3)
        self.assertEqual(product(group, [3, 1, 4]), 1)
        self.assertEqual(product(group, [4, 1, 3]), 0)

    def test_very_many(self):
        group = group_of(samples.SYMMETRIC_3)
        self.assertEqual(product(group, [1, 3] * 120), 0)
        self.assertEqual(product(group, [1] * 240 + [3]), 3)
        self.assertEqual(product(group, [1] * 241), 1)

    def test_the_list_stays_as_it_was(self):
        things = [3, 1, 4]
        product(group_of(samples.SYMMETRIC_3), things)
        self.assertEqual(things, [3, 1, 4])


class Powers(unittest.TestCase):
    def test_small_ones_step_by_step(self):
        for name, group, table in samples.groups():
            with self.subTest(name):
                for thing in range(group.many):
                    up = down = group.unit
                    for many in range(50):
                        self.assertEqual(power(group, thing, many), up)
                        self.assertEqual(power(group, thing, -many), down)
                        up = table[up][thing]
                        down = table[down][group.backs[thing]]

    def test_nought_times(self):
        for name, group, table in samples.groups():
            with self.subTest(name):
                for thing in range(group.many):
                    self.assertEqual(power(group, thing, 0), group.unit)

    def test_numbers_of_hundreds_of_figures(self):
        group = group_of(samples.cyclic(23))
        for many in (GREAT, -GREAT, 10 ** 300, -10 ** 300, 10 ** 600 - 1, 1 - 10 ** 600, 10 ** 650):
            for thing in range(23):
                with self.subTest(many=many, thing=thing):
                    self.assertEqual(power(group, thing, many), thing * many % 23)

    def test_great_numbers_where_things_do_not_go_with_one_another(self):
        for name, group, table in samples.groups():
            with self.subTest(name):
                whole = group.many * GREAT
                for thing in range(group.many):
                    self.assertEqual(power(group, thing, whole), group.unit)
                    self.assertEqual(power(group, thing, whole + 1), thing)
                    self.assertEqual(power(group, thing, -whole - 1), group.backs[thing])


class Orders(unittest.TestCase):
    def test_each_thing_of_some_groups(self):
        wanted = {
            "one thing": [1],
            "cyclic 6": [1, 6, 3, 2, 3, 6],
            "four with all squares one": [1, 2, 2, 2],
            "symmetric 3": [1, 3, 3, 2, 2, 2],
            "square": [1, 4, 2, 4, 2, 2, 2, 2],
            "quaternion": [1, 4, 2, 4, 4, 4, 4, 4],
            "cyclic 23": [1] + [23] * 22,
        }
        for name, orders in wanted.items():
            with self.subTest(name):
                group = group_of(samples.TABLES[name])
                self.assertEqual([order(group, thing) for thing in range(group.many)], orders)

    def test_it_is_the_least_number(self):
        for name, group, table in samples.groups():
            with self.subTest(name):
                for thing in range(group.many):
                    found = order(group, thing)
                    reached = [power(group, thing, k) == group.unit for k in range(1, found + 1)]
                    self.assertEqual(reached, [False] * (found - 1) + [True])

    def test_turns_of_some_groups(self):
        wanted = {
            "one thing": 1,
            "cyclic 2": 2,
            "cyclic 12": 12,
            "cyclic 23": 23,
            "four with all squares one": 2,
            "sixteen with all squares one": 2,
            "symmetric 3": 6,
            "square": 4,
            "quaternion": 4,
            "even 4": 6,
            "twelve, dicyclic": 12,
            "sixteen, modular": 8,
            "eighteen": 6,
            "twenty": 20,
            "twenty-one": 21,
            "twenty-two": 22,
        }
        for name, many in wanted.items():
            for full in (name, name + ", shuffled"):
                with self.subTest(full):
                    self.assertEqual(turns(group_of(samples.TABLES[full])), many)

    def test_turns_are_the_least_number_for_all_things(self):
        for name, group, table in samples.groups():
            with self.subTest(name):
                many = turns(group)
                for k in range(1, many + 1):
                    all_back = all(power(group, thing, k) == group.unit for thing in range(group.many))
                    self.assertEqual(all_back, k == many)

    def test_asking_changes_nothing_of_the_group(self):
        for name, group, table in samples.groups():
            with self.subTest(name):
                before = copy.deepcopy(vars(group))
                product(group, [0] * 3)
                power(group, group.many - 1, -GREAT)
                order(group, 0)
                turns(group)
                self.assertEqual(vars(group), before)


if __name__ == "__main__":
    unittest.main()
