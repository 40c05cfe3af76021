import copy
import inspect
import itertools
import unittest

from tests import samples
from tests.samples import GREAT, outcome
from tracebook import ones as module
from tracebook.errors import BadMarks, BadWheel, BookError, NoPart, NotKept, NotSteady, NoWay
from tracebook.ones import first_break, grown, ones
from tracebook.tables import group_of, turns

SOME = (
    "one thing", "cyclic 6, shuffled", "four with all squares one", "symmetric 3", "symmetric 3, shuffled",
    "square", "square, shuffled", "quaternion", "even 4", "twelve, dicyclic, shuffled", "twenty-one",
)


def cases(names=SOME):
    """Each part of some groups: name, group, table, part, turns."""
    for name in names:
        group = group_of(samples.TABLES[name])
        for part in samples.parts(group.rows):
            yield name, group, group.rows, part, turns(group)


def grown_verdict(table, part, marks, thing, spokes):
    """What grown should answer where part, spokes and marks are in order, in the form of outcome."""
    fault = samples.first_fault(table, part, marks, spokes)
    if fault is not None:
        return ("NoWay", {"one": fault[0], "two": fault[1]})
    turned = {h: samples.turned_in(table, h, thing) for h in part}
    for h in part:
        if turned[h] not in part:
            return ("NotSteady", {"turner": thing, "thing": h})
    mark = dict(zip(part, marks))
    for h in part:
        if mark[turned[h]] != mark[h]:
            return ("NotKept", {"thing": h})
    greater = samples.least_part(table, [*part, thing])
    ways = samples.one_row_ways(table, greater, spokes)
    places = [greater.index(h) for h in part]
    return (greater, [way for way in ways if [way[place] for place in places] == marks])


class Interface(unittest.TestCase):
    def test_names_and_arguments(self):
        wanted = {
            "first_break": "(group, part, marks, spokes=None)",
            "grown": "(group, part, marks, thing, spokes=None)",
            "ones": "(group, part, spokes=None)",
        }
        for name, arguments in wanted.items():
            with self.subTest(name):
                self.assertEqual(str(inspect.signature(getattr(module, name))), arguments)


class Spokes(unittest.TestCase):
    def asks(self, group, part):
        marks = [0] * len(part)
        return [
            lambda *spokes: first_break(group, part, marks, *spokes),
            lambda *spokes: grown(group, part, marks, group.unit, *spokes),
            lambda *spokes: ones(group, part, *spokes),
        ]

    def test_just_those_that_serve_the_group_are_taken(self):
        names = ("one thing", "cyclic 2", "cyclic 12", "cyclic 23", "symmetric 3", "quaternion", "twenty, shuffled")
        for name in names:
            group = group_of(samples.TABLES[name])
            least = turns(group)
            for spokes in [*range(-70, 130), GREAT, -GREAT, least * GREAT, -least * GREAT]:
                for ask in self.asks(group, [group.unit]):
                    serves = 1 <= spokes <= 60 and spokes % least == 0
                    self.assertEqual(outcome(ask, spokes) != ("BadWheel", {}), serves, (name, spokes))

    def test_it_is_the_whole_group_that_must_be_served(self):
        group = group_of(samples.SYMMETRIC_3)
        for part, spokes in (([0], 1), ([0, 3], 2), ([0, 3], 4), ([0, 1, 2], 3), ([0, 1, 2], 9)):
            for ask in self.asks(group, part):
                with self.assertRaises(BookError) as caught:
                    ask(spokes)
                self.assertIs(caught.exception.__class__, BadWheel)
                self.assertEqual(vars(caught.exception), {})

    def test_left_out_and_none_are_the_turns_of_the_whole_group(self):
        for name, group, table, part, least in cases():
            for ask in self.asks(group, part):
                self.assertEqual(ask(), ask(least), (name, part))
                self.assertEqual(ask(None), ask(least), (name, part))

    def test_marks_are_read_by_the_turns_where_spokes_are_left_out(self):
        group = group_of(samples.SYMMETRIC_3)
        self.assertIsNone(first_break(group, [0, 3], [0, 3]))
        self.assertEqual(first_break(group, [0, 3], [0, 1]), (3, 3))
        self.assertIsNone(first_break(group, [0, 3], [0, 6], 12))
        self.assertEqual(outcome(first_break, group, [0, 3], [0, 6]), ("BadMarks", {}))
        self.assertEqual(ones(group, [0, 3]), [[0, 0], [0, 3]])
        self.assertEqual(ones(group, [0, 3], 60), [[0, 0], [0, 30]])

    def test_each_may_be_named(self):
        group = group_of(samples.SYMMETRIC_3)
        self.assertIsNone(first_break(group, part=[0, 3], marks=[0, 6], spokes=12))
        self.assertEqual(ones(group, [0], spokes=12), [[0]])
        self.assertEqual(grown(group, [0], [0], thing=3, spokes=12), ([0, 3], [[0, 0], [0, 6]]))


class Marks(unittest.TestCase):
    def test_refused(self):
        for name, group, table, part, least in cases(("symmetric 3", "quaternion, shuffled", "cyclic 23")):
            for spokes in (least, samples.greatest(least)):
                for marks in samples.bad_marks(part, spokes):
                    kept = list(marks)
                    for ask in (first_break, lambda g, p, m, s: grown(g, p, m, g.unit, s)):
                        with self.assertRaises(BookError) as caught:
                            ask(group, part, marks, spokes)
                        self.assertIs(caught.exception.__class__, BadMarks)
                        self.assertEqual(vars(caught.exception), {})
                    self.assertEqual(marks, kept)

    def test_the_greatest_mark_is_none_of_these(self):
        for name, group, table, part, least in cases():
            for spokes in (least, samples.greatest(least)):
                told = outcome(first_break, group, part, [spokes - 1] * len(part), spokes)
                self.assertNotEqual(told, ("BadMarks", {}))


class FirstBreak(unittest.TestCase):
    def test_one_row_ways(self):
        group = group_of(samples.SQUARE)
        for marks in ([0] * 8, [0, 2, 0, 2, 0, 2, 0, 2], [0, 2, 0, 2, 2, 0, 2, 0], [0, 0, 0, 0, 2, 2, 2, 2]):
            self.assertIsNone(first_break(group, list(range(8)), marks))
        self.assertIsNone(first_break(group_of(samples.cyclic(23)), list(range(23)), list(range(23))))
        self.assertIsNone(first_break(group_of(samples.cyclic(4)), [0, 1, 2, 3], [0, 15, 30, 45], 60))

    def test_breaks(self):
        group = group_of(samples.cyclic(4))
        self.assertEqual(first_break(group, [0, 1, 2, 3], [1, 1, 1, 1]), (0, 0))
        self.assertEqual(first_break(group, [0, 1, 2, 3], [0, 1, 2, 0]), (1, 2))
        self.assertEqual(first_break(group, [0, 1, 2, 3], [0, 1, 0, 3]), (1, 1))
        self.assertEqual(first_break(group, [0, 2], [0, 1]), (2, 2))
        self.assertEqual(first_break(group, [0, 1, 2, 3], [0, 1, 2, 3], 8), (1, 3))

    def test_things_are_told_not_places(self):
        group = group_of(samples.shuffled(samples.cyclic(6)))
        self.assertEqual(first_break(group, [1, 3, 5], [1, 0, 0]), (1, 1))
        self.assertEqual(first_break(group, [5], [1]), (5, 5))

    def test_all_marks_of_small_parts(self):
        for name, group, table, part, least in cases():
            if least ** len(part) <= 5000:
                for marks in map(list, itertools.product(range(least), repeat=len(part))):
                    told = first_break(group, part, marks)
                    self.assertEqual(told, samples.first_fault(table, part, marks, least), (name, part, marks))
                    self.assertTrue(told is None or isinstance(told, tuple))

    def test_one_mark_changed(self):
        for name, group, table, part, least in cases():
            spokes = samples.greatest(least)
            for way in samples.one_row_ways(table, part, least):
                marks = [mark * (spokes // least) for mark in way]
                self.assertIsNone(first_break(group, part, marks, spokes))
                for place in range(len(part)):
                    changed = list(marks)
                    changed[place] = (marks[place] + 1 + place) % spokes
                    kept = (list(part), list(changed))
                    told = first_break(group, part, changed, spokes)
                    self.assertEqual((part, changed), kept)
                    self.assertEqual(told, samples.first_fault(table, part, changed, spokes), (name, part, changed))

    def test_refusals_in_their_order(self):
        group = group_of(samples.SYMMETRIC_3)
        self.assertEqual(outcome(first_break, group, [0, 1], [0], 5), ("NoPart", {}))
        self.assertEqual(outcome(first_break, group, [0, 1], [0, 0], 5), ("NoPart", {}))
        self.assertEqual(outcome(first_break, group, [], []), ("NoPart", {}))
        self.assertEqual(outcome(first_break, group, [0, GREAT], [0, 9]), ("NoPart", {}))
        self.assertEqual(outcome(first_break, group, [0, 3], [0], 5), ("BadWheel", {}))
        self.assertEqual(outcome(first_break, group, [0, 3], [0, 99], 66), ("BadWheel", {}))
        self.assertEqual(outcome(first_break, group, [0, 3], [1, 6]), ("BadMarks", {}))
        self.assertEqual(first_break(group, [0, 3], [1, 5]), (0, 0))


class Grown(unittest.TestCase):
    def refused(self, kind, fields, *arguments):
        with self.assertRaises(BookError) as caught:
            grown(*arguments)
        self.assertIs(caught.exception.__class__, kind)
        self.assertEqual(vars(caught.exception), fields)

    def test_some(self):
        group = group_of(samples.SYMMETRIC_3)
        self.assertEqual(grown(group, [0], [0], 1), ([0, 1, 2], [[0, 0, 0], [0, 2, 4], [0, 4, 2]]))
        self.assertEqual(grown(group, [0], [0], 3), ([0, 3], [[0, 0], [0, 3]]))
        full = [0, 1, 2, 3, 4, 5]
        self.assertEqual(grown(group, [0, 1, 2], [0, 0, 0], 4), (full, [[0] * 6, [0, 0, 0, 3, 3, 3]]))

    def test_a_thing_of_the_part_itself(self):
        for name, group, table, part, least in cases():
            for marks in samples.one_row_ways(table, part, least):
                for thing in part:
                    told = grown(group, part, marks, thing)
                    self.assertEqual(told, (part, [marks]), (name, part, marks, thing))
                    self.assertIsNot(told[0], part)
                    self.assertIsNot(told[1][0], marks)

    def test_a_power_of_the_thing_with_a_mark(self):
        group = group_of(samples.cyclic(4))
        self.assertEqual(grown(group, [0, 2], [0, 2], 1), ([0, 1, 2, 3], [[0, 1, 2, 3], [0, 3, 2, 1]]))
        self.assertEqual(grown(group, [0, 2], [0, 4], 3, 8), ([0, 1, 2, 3], [[0, 2, 4, 6], [0, 6, 4, 2]]))

    def test_as_many_as_the_least_power_in_the_part(self):
        group = group_of(samples.cyclic(12))
        for part in samples.parts(group.rows):
            for thing in range(12):
                steps = next(k for k in range(1, 13) if k * thing % 12 in part)
                for marks in samples.one_row_ways(group.rows, part, 12):
                    self.assertEqual(len(grown(group, part, marks, thing)[1]), steps)
                    self.assertEqual(len(grown(group, part, [5 * mark for mark in marks], thing, 60)[1]), steps)

    def test_all_one_row_ways_of_all_parts_and_all_things(self):
        seen = []
        for name, group, table, part, least in cases(SOME + ("sixteen, modular",)):
            for marks in samples.one_row_ways(table, part, least):
                for thing in range(group.many):
                    kept = (list(part), list(marks))
                    told = outcome(grown, group, part, marks, thing)
                    self.assertEqual((part, marks), kept)
                    self.assertIsInstance(told, tuple)
                    self.assertEqual(told, grown_verdict(table, part, marks, thing, least), (name, part, marks, thing))
                    seen.append(told[0] if isinstance(told[0], str) else "told")
        self.assertEqual(set(seen), {"told", "NotSteady", "NotKept"})

    def test_more_spokes_than_the_turns(self):
        for name, group, table, part, least in cases(("symmetric 3, shuffled", "square", "quaternion, shuffled")):
            spokes = 3 * least
            for marks in samples.one_row_ways(table, part, spokes):
                for thing in range(group.many):
                    told = outcome(grown, group, part, marks, thing, spokes)
                    self.assertEqual(told, grown_verdict(table, part, marks, thing, spokes), (name, part, marks, thing))

    def test_no_way(self):
        group = group_of(samples.cyclic(4))
        self.refused(NoWay, {"one": 1, "two": 2}, group, [0, 1, 2, 3], [0, 1, 2, 0], 0)
        self.refused(NoWay, {"one": 2, "two": 2}, group, [0, 2], [0, 1], 1)
        self.refused(NoWay, {"one": 0, "two": 0}, group, [0], [3], 1)

    def test_not_steady(self):
        group = group_of(samples.SYMMETRIC_3)
        self.refused(NotSteady, {"turner": 1, "thing": 3}, group, [0, 3], [0, 3], 1)
        self.refused(NotSteady, {"turner": 2, "thing": 3}, group, [0, 3], [0, 0], 2)
        self.refused(NotSteady, {"turner": 5, "thing": 4}, group, [0, 4], [0, 0], 5)

    def test_a_part_that_is_not_steady_but_for_this_thing(self):
        group = group_of(samples.SQUARE)
        self.assertEqual(grown(group, [0, 4], [0, 2], 2), ([0, 2, 4, 6], [[0, 0, 2, 2], [0, 2, 2, 0]]))

    def test_not_kept(self):
        group = group_of(samples.SYMMETRIC_3)
        self.refused(NotKept, {"thing": 1}, group, [0, 1, 2], [0, 2, 4], 3)
        self.refused(NotKept, {"thing": 4}, group_of(samples.SQUARE), [0, 2, 4, 6], [0, 2, 0, 2], 1)

    def test_each_before_the_next_one(self):
        group = group_of(samples.SYMMETRIC_3)
        self.refused(NoPart, {}, group, [0, 3, 4], [0, 3], 1, 5)
        self.refused(NoPart, {}, group, [3], [1], 1, 6)
        self.refused(BadWheel, {}, group, [0, 3], [0], 1, 5)
        self.refused(BadWheel, {}, group, [0, 3], [1, 1], 1, 0)
        self.refused(BadMarks, {}, group, [0, 3], [1, 6], 1)
        self.refused(BadMarks, {}, group, [0, 1, 2], [0, 2, -2], 3)
        self.refused(NoWay, {"one": 3, "two": 3}, group, [0, 3], [0, 1], 1)
        self.refused(NoWay, {"one": 1, "two": 1}, group, [0, 1, 2], [0, 2, 2], 3)

    def test_all_marks_of_a_small_part(self):
        group = group_of(samples.shuffled(samples.SYMMETRIC_3))
        for part in samples.parts(group.rows):
            if len(part) <= 3:
                for marks in map(list, itertools.product(range(6), repeat=len(part))):
                    for thing in range(6):
                        wanted = grown_verdict(group.rows, part, marks, thing, 6)
                        self.assertEqual(outcome(grown, group, part, marks, thing), wanted)

    def test_what_is_told_is_the_askers_own(self):
        group = group_of(samples.SYMMETRIC_3)
        part, marks = [0, 1, 2], [0, 0, 0]
        told = grown(group, part, marks, 3)
        first = copy.deepcopy(told)
        part[0] = 9
        marks.append(9)
        self.assertEqual(told, first)
        told[0].pop()
        told[1][0][0] = 9
        told[1].pop()
        self.assertEqual(grown(group, [0, 1, 2], [0, 0, 0], 3), first)


class Ones(unittest.TestCase):
    def test_some(self):
        group = group_of(samples.SYMMETRIC_3)
        self.assertEqual(ones(group, [0]), [[0]])
        self.assertEqual(ones(group, [0, 1, 2]), [[0, 0, 0], [0, 2, 4], [0, 4, 2]])
        self.assertEqual(ones(group, list(range(6))), [[0] * 6, [0, 0, 0, 3, 3, 3]])
        four = group_of(samples.cyclic(4))
        self.assertEqual(ones(four, [0, 1, 2, 3]), [[0, 0, 0, 0], [0, 1, 2, 3], [0, 2, 0, 2], [0, 3, 2, 1]])
        self.assertEqual(ones(four, [0, 2], 60), [[0, 0], [0, 30]])

    def test_another_unit_than_0(self):
        group = group_of([[1, 2, 0], [2, 0, 1], [0, 1, 2]])
        self.assertEqual(ones(group, [0, 1, 2]), [[0, 0, 0], [1, 2, 0], [2, 1, 0]])

    def test_all_parts_of_all_groups(self):
        for name, group, table in samples.every_group():
            least = turns(group)
            for part in samples.parts(table):
                kept = list(part)
                told = ones(group, part)
                self.assertEqual(part, kept)
                self.assertEqual(told, samples.one_row_ways(table, part, least), (name, part))
                self.assertEqual(len(told) * len(samples.mixed_part(table, part)), len(part))
                self.assertEqual(told[0], [0] * len(part))

    def test_more_spokes_than_the_turns(self):
        for name, group, table in samples.every_group():
            least = turns(group)
            spokes = samples.greatest(least)
            for part in samples.parts(table):
                wanted = [[mark * (spokes // least) for mark in way] for way in ones(group, part)]
                self.assertEqual(ones(group, part, spokes), wanted, (name, part))

    def test_more_spokes_found_by_trying(self):
        for name, group, table, part, least in cases(("symmetric 3", "square, shuffled", "cyclic 6")):
            for spokes in (least, 2 * least, 5 * least):
                self.assertEqual(ones(group, part, spokes), samples.one_row_ways(table, part, spokes), (name, part))

    def test_refusals_in_their_order(self):
        group = group_of(samples.SYMMETRIC_3)
        for some in ([], [3], [3, 0], [0, 0], [0, 3, 4], [-1, 0], [0, 6], [0, GREAT], [-GREAT]):
            for spokes in (None, 6, 5, 0, GREAT):
                self.assertEqual(outcome(ones, group, some, spokes), ("NoPart", {}))
        for spokes in (0, -6, 5, 7, 66, GREAT, 6 * GREAT):
            self.assertEqual(outcome(ones, group, [0, 3], spokes), ("BadWheel", {}))

    def test_what_is_told_is_the_askers_own(self):
        group = group_of(samples.SYMMETRIC_3)
        part = [0, 1, 2]
        told = ones(group, part)
        part.pop()
        self.assertEqual(told, [[0, 0, 0], [0, 2, 4], [0, 4, 2]])
        told[0][1] = 5
        told[1].append(3)
        told.pop()
        self.assertEqual(ones(group, [0, 1, 2]), [[0, 0, 0], [0, 2, 4], [0, 4, 2]])


class NothingIsChanged(unittest.TestCase):
    def test_refusals_and_answers_change_nothing(self):
        for name in ("symmetric 3", "square, shuffled", "cyclic 23"):
            group = group_of(samples.TABLES[name])
            before = copy.deepcopy(vars(group))
            full = list(range(group.many))
            first = ones(group, full)
            outcome(ones, group, [group.many])
            outcome(ones, group, full, -1)
            outcome(first_break, group, full, [GREAT] * group.many)
            outcome(grown, group, full, full, 0)
            for thing in full:
                outcome(grown, group, [group.unit], [0], thing)
            with self.subTest(name):
                self.assertEqual(vars(group), before)
                self.assertEqual(ones(group, full), first)


if __name__ == "__main__":
    unittest.main()
