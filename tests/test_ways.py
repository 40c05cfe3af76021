import copy
import inspect
import itertools
import sys
import unittest

from tests import samples
from tests.samples import GREAT, outcome
from tracebook import ways as module
from tracebook.errors import BadMarks, BadWheel, BookError, NoPart, NoWay, OtherGroup, OtherWheel, TooGreat
from tracebook.tables import Group, group_of, turns
from tracebook.ways import Backed, Beside, Crossed, Lifted, Raised, Regular, Way, Within

SEVEN = (Regular, Lifted, Beside, Crossed, Backed, Within, Raised)

SOME = (
    "one thing", "cyclic 2", "cyclic 6, shuffled", "four with all squares one", "symmetric 3",
    "symmetric 3, shuffled", "square", "quaternion, shuffled", "even 4", "twelve, dicyclic, shuffled", "twenty-one",
)


def some_groups(names=SOME):
    return [(name, group_of(samples.TABLES[name])) for name in names]


def all_moves(way):
    return [way.moves(thing) for thing in range(way.group.many)]


def state(way):
    """All that is promised of a way, without anything that it still holds."""
    return copy.deepcopy((vars(way.group), way.spokes, way.size, all_moves(way)))


def lifts(group, spokes=None):
    """Each lift of each one-row way of each part: part, marks, way."""
    for part in samples.parts(group.rows):
        for marks in samples.one_row_ways(group.rows, part, spokes or turns(group)):
            yield part, marks, Lifted(group, part, marks, spokes)


def few_ways(group, spokes=None):
    """Ways with few places: the regular one where it has few, some lifts, and two ways beside one another."""
    made = [way for part, marks, way in lifts(group, spokes) if way.size < 5]
    made = made[:2] + made[-4:]
    if group.many < 7:
        made.append(Regular(group, spokes))
    return made + [Beside(made[-1], made[0])]


def times_over(way, many):
    """A way so many times beside itself."""
    found = way
    for step in range(many - 1):
        found = Beside(found, way)
    return found


def steps_of(call):
    """How many steps of Python's a call takes: calls, lines and returns."""
    seen = []

    def count(frame, event, argument):
        seen.append(event)
        return count

    before = sys.gettrace()
    sys.settrace(count)
    try:
        call()
    finally:
        sys.settrace(before)
    return len(seen)


class WayCase(unittest.TestCase):
    def check(self, way, rows, spokes, moves):
        """That a way has these fields and does this, and all that the document says of every way."""
        self.assertIsInstance(way, Way)
        self.assertIsInstance(way.group, Group)
        self.assertEqual(vars(way.group), vars(group_of(rows)))
        self.assertEqual((way.spokes, way.size), (spokes, len(moves[0])))
        self.assertEqual(all_moves(way), moves)
        things = range(len(rows))
        for thing in things:
            for place, spoke in moves[thing]:
                self.assertTrue(0 <= place < way.size and 0 <= spoke < spokes)
            counts = [0] * spokes
            for place in range(way.size):
                if moves[thing][place][0] == place:
                    counts[moves[thing][place][1]] += 1
            self.assertEqual(way.trace(thing), counts)
        self.assertEqual(moves[way.group.unit], [(place, 0) for place in range(way.size)])
        for a, b in itertools.product(things, repeat=2):
            both = [(moves[a][q][0], (k + moves[a][q][1]) % spokes) for q, k in moves[b]]
            self.assertEqual(moves[rows[a][b]], both)

    def refused(self, kind, fields, make, *arguments):
        kept = [list(some) if isinstance(some, list) else some for some in arguments]
        with self.assertRaises(BookError) as caught:
            make(*arguments)
        self.assertIs(caught.exception.__class__, kind)
        self.assertEqual(vars(caught.exception), fields)
        self.assertEqual(list(arguments), kept)


class Interface(unittest.TestCase):
    def test_names_and_arguments(self):
        wanted = {
            Regular: "(group, spokes=None)",
            Lifted: "(group, part, marks, spokes=None)",
            Beside: "(one, other)",
            Crossed: "(one, other)",
            Backed: "(way)",
            Within: "(way, part)",
            Raised: "(group, part, way)",
        }
        for kind, arguments in wanted.items():
            with self.subTest(kind.__name__):
                self.assertEqual(str(inspect.signature(kind)), arguments)
                self.assertEqual(kind.__bases__, (Way,))
        self.assertEqual(str(inspect.signature(Way.moves)), "(self, thing)")
        self.assertEqual(str(inspect.signature(Way.trace)), "(self, thing)")

    def test_the_seven_and_no_others(self):
        there = [value for value in vars(module).values() if isinstance(value, type) and issubclass(value, Way)]
        self.assertEqual(set(there), {Way, *SEVEN})

    def test_each_argument_may_be_named(self):
        group = group_of(samples.SYMMETRIC_3)
        way = Lifted(group=group, part=[0, 1, 2], marks=[0, 4, 8], spokes=12)
        self.assertEqual((way.part, way.marks, way.spokes, way.size), ([0, 1, 2], [0, 4, 8], 12, 2))
        self.assertEqual(Regular(group=group, spokes=12).spokes, 12)
        self.assertEqual(Beside(one=way, other=way).size, 4)
        self.assertEqual(Crossed(one=way, other=way).size, 4)
        self.assertEqual(Backed(way=way).size, 2)
        self.assertEqual(Within(way=way, part=[0, 3]).size, 2)
        self.assertEqual(Raised(group=group, part=[0, 3], way=Within(way, [0, 3])).size, 6)


class RegularWays(WayCase):
    def test_every_group(self):
        for name, group, table in samples.groups():
            with self.subTest(name):
                moves = [[(table[a][b], 0) for b in range(len(table))] for a in range(len(table))]
                self.check(Regular(group), table, turns(group), moves)

    def test_some(self):
        way = Regular(group_of(samples.SYMMETRIC_3))
        self.assertEqual(way.moves(3), [(3, 0), (5, 0), (4, 0), (0, 0), (2, 0), (1, 0)])
        self.assertEqual(way.trace(0), [6, 0, 0, 0, 0, 0])
        self.assertEqual(way.trace(3), [0] * 6)
        self.assertEqual(Regular(group_of([[0]])).moves(0), [(0, 0)])

    def test_spokes(self):
        for name, group in some_groups():
            least = turns(group)
            moves = all_moves(Regular(group))
            self.assertEqual((Regular(group, None).spokes, Regular(group).spokes), (least, least))
            for spokes in [*range(-3, 130), GREAT, -GREAT, least * GREAT, -least]:
                with self.subTest(name, spokes=spokes):
                    if 1 <= spokes <= 60 and spokes % least == 0:
                        self.check(Regular(group, spokes), group.rows, spokes, moves)
                    else:
                        self.refused(BadWheel, {}, Regular, group, spokes)


class LiftedWays(WayCase):
    def moves(self, table, part, marks):
        found = samples.splits(table, part)
        carriers = [side[0] for side in samples.sides_in(table, part)]
        led = [[found[table[a][x]] for x in carriers] for a in range(len(table))]
        return [[(number, marks[k]) for number, k in row] for row in led]

    def check_lifted(self, group, part, marks, spokes):
        kept = (list(part), list(marks))
        way = Lifted(group, part, marks, spokes)
        self.assertEqual((part, marks), kept)
        self.assertEqual((way.part, way.marks), kept)
        self.assertIsInstance(way.part, list)
        self.assertIsInstance(way.marks, list)
        self.check(way, group.rows, spokes, self.moves(group.rows, part, marks))

    def test_all_one_row_ways_of_all_parts(self):
        for name, group in some_groups(SOME + ("sixteen, modular", "twenty, shuffled", "cyclic 12", "cyclic 23")):
            least = turns(group)
            for part in samples.parts(group.rows):
                for marks in samples.one_row_ways(group.rows, part, least):
                    with self.subTest(name, part=part, marks=marks):
                        self.check_lifted(group, part, marks, least)

    def test_more_spokes_than_the_turns(self):
        for name, group in some_groups():
            least = turns(group)
            times = 60 // least
            for part in samples.parts(group.rows):
                for marks in samples.one_row_ways(group.rows, part, least):
                    with self.subTest(name, part=part, marks=marks):
                        self.check_lifted(group, part, [mark * times for mark in marks], least * times)

    def test_some(self):
        group = group_of(samples.SYMMETRIC_3)
        way = Lifted(group, [0, 1, 2], [0, 2, 4])
        wanted = [[(0, 0), (1, 0)], [(0, 2), (1, 4)], [(0, 4), (1, 2)], [(1, 0), (0, 0)], [(1, 4), (0, 2)]]
        self.assertEqual(all_moves(way)[:5], wanted)
        self.assertEqual([way.trace(thing) for thing in (0, 1, 3)], [[2, 0, 0, 0, 0, 0], [0, 0, 1, 0, 1, 0], [0] * 6])
        way = Lifted(group, [0, 3], [0, 3])
        self.assertEqual((way.size, way.moves(3)), (3, [(0, 3), (2, 3), (1, 3)]))

    def test_the_unit_alone_gives_the_regular_way(self):
        for name, group, table in samples.groups():
            with self.subTest(name):
                self.assertEqual(all_moves(Lifted(group, [group.unit], [0])), all_moves(Regular(group)))

    def test_the_whole_group_gives_its_marks(self):
        for name, group in some_groups():
            full = list(range(group.many))
            for marks in samples.one_row_ways(group.rows, full, turns(group)):
                way = Lifted(group, full, marks)
                self.assertEqual(all_moves(way), [[(0, mark)] for mark in marks], (name, marks))

    def test_spokes(self):
        for name, group in some_groups():
            least = turns(group)
            part = list(range(group.many))
            for spokes in (None, least, samples.greatest(least)):
                self.assertEqual(Lifted(group, part, [0] * group.many, spokes).spokes, spokes or least)
            self.assertEqual(Lifted(group, part, [0] * group.many).spokes, least)
            for spokes in (0, -least, 61, 60 + least, GREAT, least * GREAT, *([least + 1, least // 2] * (least > 1))):
                self.refused(BadWheel, {}, Lifted, group, part, [0] * group.many, spokes)

    def test_spokes_must_serve_the_whole_group(self):
        group = group_of(samples.SYMMETRIC_3)
        for part, spokes in (([0], 1), ([0, 3], 2), ([0, 1, 2], 3), ([0, 1, 2], 9)):
            self.refused(BadWheel, {}, Lifted, group, part, [0] * len(part), spokes)

    def test_no_part(self):
        for name in ("cyclic 6", "symmetric 3, shuffled", "quaternion", "cyclic 23"):
            group = group_of(samples.TABLES[name])
            for sort, some in samples.no_parts(group.rows).items():
                with self.subTest(name, sort=sort):
                    self.refused(NoPart, {}, Lifted, group, some, [0] * len(some))

    def test_bad_marks(self):
        for name, group in some_groups(("symmetric 3", "quaternion, shuffled", "one thing")):
            for part in samples.parts(group.rows):
                for spokes in (turns(group), samples.greatest(turns(group))):
                    for marks in samples.bad_marks(part, spokes):
                        self.refused(BadMarks, {}, Lifted, group, part, marks, spokes)

    def test_no_way(self):
        four = group_of(samples.cyclic(4))
        self.refused(NoWay, {"one": 1, "two": 2}, Lifted, four, [0, 1, 2, 3], [0, 1, 2, 0])
        self.refused(NoWay, {"one": 2, "two": 2}, Lifted, four, [0, 2], [0, 1])
        self.refused(NoWay, {"one": 1, "two": 3}, Lifted, four, [0, 1, 2, 3], [0, 1, 2, 3], 8)
        for name, group in some_groups(("symmetric 3", "symmetric 3, shuffled", "four with all squares one")):
            least = turns(group)
            for part in samples.parts(group.rows):
                for marks in map(list, itertools.product(range(least), repeat=len(part))):
                    fault = samples.first_fault(group.rows, part, marks, least) if len(part) < 4 else None
                    if fault is not None:
                        self.refused(NoWay, {"one": fault[0], "two": fault[1]}, Lifted, group, part, marks)

    def test_each_before_the_next_one(self):
        group = group_of(samples.SYMMETRIC_3)
        self.refused(NoPart, {}, Lifted, group, [0, 1], [0, 0], 5)
        self.refused(NoPart, {}, Lifted, group, [0, 1], [0, 9])
        self.refused(NoPart, {}, Lifted, group, [0, 1], [1, 1])
        self.refused(NoPart, {}, Lifted, group, [], [0], 0)
        self.refused(BadWheel, {}, Lifted, group, [0, 3], [0], 5)
        self.refused(BadWheel, {}, Lifted, group, [0, 3], [0, 99], 66)
        self.refused(BadWheel, {}, Lifted, group, [0, 3], [1, 1], 9)
        self.refused(BadMarks, {}, Lifted, group, [0, 3], [1, 6])
        self.refused(BadMarks, {}, Lifted, group, [0, 3], [1, -1])
        self.refused(BadMarks, {}, Lifted, group, [0, 3], [1])

    def test_lists_may_be_changed_behind_the_call(self):
        group = group_of(samples.SYMMETRIC_3)
        part, marks = [0, 1, 2], [0, 2, 4]
        way = Lifted(group, part, marks)
        first = all_moves(way)
        part[1] = 9
        marks.append(9)
        marks[0] = 5
        self.assertEqual((way.part, way.marks, all_moves(way)), ([0, 1, 2], [0, 2, 4], first))


class BesideWays(WayCase):
    def moves(self, one, other):
        return [
            one.moves(a) + [(one.size + place, spoke) for place, spoke in other.moves(a)] for a in range(one.group.many)
        ]

    def test_any_two(self):
        for name, group in some_groups():
            for spokes in (turns(group), samples.greatest(turns(group))):
                for one, other in itertools.product(few_ways(group, spokes), repeat=2):
                    with self.subTest(name, spokes=spokes):
                        self.check(Beside(one, other), group.rows, spokes, self.moves(one, other))

    def test_some(self):
        group = group_of(samples.SYMMETRIC_3)
        one, other = Lifted(group, [0, 1, 2], [0, 2, 4]), Lifted(group, list(range(6)), [0, 0, 0, 3, 3, 3])
        self.assertEqual(Beside(one, other).moves(4), [(1, 4), (0, 2), (2, 3)])
        self.assertEqual(Beside(other, one).moves(4), [(0, 3), (2, 4), (1, 2)])
        self.assertEqual(Beside(other, one).trace(3), [0, 0, 0, 1, 0, 0])


class CrossedWays(WayCase):
    def moves(self, one, other, thing):
        found = [None] * (one.size * other.size)
        for i, j in itertools.product(range(one.size), range(other.size)):
            (p, k), (q, m) = one.moves(thing)[i], other.moves(thing)[j]
            found[i * other.size + j] = (p * other.size + q, (k + m) % one.spokes)
        return found

    def test_any_two(self):
        for name, group in some_groups():
            for spokes in (turns(group), samples.greatest(turns(group))):
                for one, other in itertools.product(few_ways(group, spokes), repeat=2):
                    if one.size * other.size <= 60:
                        with self.subTest(name, spokes=spokes):
                            moves = [self.moves(one, other, thing) for thing in range(group.many)]
                            self.check(Crossed(one, other), group.rows, spokes, moves)

    def test_some(self):
        group = group_of(samples.SYMMETRIC_3)
        one, other = Lifted(group, [0, 1, 2], [0, 2, 4]), Lifted(group, [0, 3], [0, 3])
        self.assertEqual(Crossed(one, other).moves(3), [(3, 3), (5, 3), (4, 3), (0, 3), (2, 3), (1, 3)])
        self.assertEqual(Crossed(other, one).moves(3), [(1, 3), (0, 3), (5, 3), (4, 3), (3, 3), (2, 3)])
        self.assertEqual(Crossed(one, one).moves(1), [(0, 4), (1, 0), (2, 0), (3, 2)])


class BesideAndCrossed(WayCase):
    def test_unlike_groups(self):
        square, quaternion = Regular(group_of(samples.SQUARE)), Regular(group_of(samples.QUATERNION))
        renamed = Regular(group_of(samples.shuffled(samples.SQUARE)))
        for one, other in itertools.permutations((square, quaternion, renamed), 2):
            for make in (Beside, Crossed):
                self.refused(OtherGroup, {}, make, one, other)

    def test_unlike_numbers_of_spokes(self):
        for name, group in some_groups():
            least = turns(group)
            full = list(range(group.many))
            one, other = (Lifted(group, full, [0] * group.many, spokes) for spokes in (least, 2 * least))
            for make in (Beside, Crossed):
                self.refused(OtherWheel, {}, make, one, other)
                self.refused(OtherWheel, {}, make, other, one)

    def test_groups_of_unlike_size(self):
        one, other = Regular(group_of(samples.cyclic(1)), 6), Regular(group_of(samples.cyclic(2)), 6)
        for make in (Beside, Crossed):
            self.refused(OtherGroup, {}, make, one, other)
            self.refused(OtherGroup, {}, make, other, one)

    def test_two_groups_made_of_one_table_are_alike(self):
        one, other = Regular(group_of(samples.SYMMETRIC_3)), Regular(group_of(samples.SYMMETRIC_3))
        self.assertEqual((Beside(one, other).size, Crossed(one, other).size), (12, 36))

    def test_sixty_places_and_more(self):
        for name in ("twenty", "twenty, shuffled"):
            group = group_of(samples.TABLES[name])
            regular = Regular(group)
            single = Lifted(group, list(range(20)), [0] * 20)
            three = times_over(single, 3)
            for way in (Beside(times_over(regular, 2), regular), Beside(single, times_over(single, 59))):
                self.assertEqual(way.size, 60)
                self.assertEqual(Crossed(way, single).size, 60)
                self.refused(TooGreat, {}, Beside, way, single)
                self.refused(TooGreat, {}, Beside, single, way)
                self.refused(TooGreat, {}, Beside, way, way)
                self.refused(TooGreat, {}, Crossed, way, way)
            self.assertEqual((Crossed(regular, three).size, Crossed(three, regular).size), (60, 60))
            self.refused(TooGreat, {}, Crossed, Beside(regular, single), three)
            self.refused(TooGreat, {}, Crossed, regular, Beside(three, single))
            thirty = times_over(single, 31)
            self.refused(TooGreat, {}, Crossed, thirty, times_over(single, 2))

    def test_each_before_the_next_one(self):
        group, other = group_of(samples.SQUARE), group_of(samples.QUATERNION)
        for make in (Beside, Crossed):
            self.refused(OtherGroup, {}, make, Regular(group, 4), Regular(other, 8))
        great = times_over(Regular(group), 7)
        for make in (Beside, Crossed):
            self.refused(OtherGroup, {}, make, great, Regular(other))
            self.refused(OtherGroup, {}, make, great, Regular(other, 8))
            self.refused(OtherWheel, {}, make, great, Regular(group, 8))
            self.refused(OtherWheel, {}, make, Regular(group, 8), great)
            self.refused(TooGreat, {}, make, great, Regular(group))


class BackedWays(WayCase):
    def test_all_lifts(self):
        for name, group in some_groups():
            for spokes in (turns(group), samples.greatest(turns(group))):
                for part, marks, way in lifts(group, spokes):
                    moves = [[(place, -spoke % spokes) for place, spoke in row] for row in all_moves(way)]
                    with self.subTest(name, part=part, marks=marks):
                        self.check(Backed(way), group.rows, spokes, moves)
                        self.assertEqual(all_moves(Backed(Backed(way))), all_moves(way))

    def test_some(self):
        way = Lifted(group_of(samples.cyclic(4)), [0, 1, 2, 3], [0, 1, 2, 3])
        self.assertEqual(all_moves(Backed(way)), [[(0, 0)], [(0, 3)], [(0, 2)], [(0, 1)]])
        self.assertEqual(Backed(way).trace(1), [0, 0, 0, 1])
        wide = Lifted(group_of(samples.cyclic(4)), [0, 1, 2, 3], [0, 2, 4, 6], 8)
        self.assertEqual(all_moves(Backed(wide)), [[(0, 0)], [(0, 6)], [(0, 4)], [(0, 2)]])


class WithinWays(WayCase):
    def test_all_parts(self):
        for name, group in some_groups():
            for spokes in (turns(group), samples.greatest(turns(group))):
                for way in few_ways(group, spokes):
                    for part in samples.parts(group.rows):
                        kept = list(part)
                        made = Within(way, part)
                        self.assertEqual(part, kept)
                        with self.subTest(name, spokes=spokes, part=part):
                            moves = [way.moves(thing) for thing in part]
                            self.check(made, samples.inner_table(group.rows, part), spokes, moves)

    def test_some(self):
        way = Lifted(group_of(samples.SYMMETRIC_3), [0, 1, 2], [0, 2, 4])
        self.assertEqual(all_moves(Within(way, [0, 5])), [[(0, 0), (1, 0)], [(1, 2), (0, 4)]])
        self.assertEqual(Within(way, [0, 5]).group.rows, [[0, 1], [1, 0]])
        self.assertEqual(Within(way, [0, 5]).spokes, 6)

    def test_no_part(self):
        for name in ("cyclic 6", "symmetric 3, shuffled", "quaternion", "cyclic 23"):
            way = Regular(group_of(samples.TABLES[name]))
            for sort, some in samples.no_parts(way.group.rows).items():
                with self.subTest(name, sort=sort):
                    self.refused(NoPart, {}, Within, way, some)

    def test_it_is_a_part_of_the_ways_group(self):
        way = Within(Regular(group_of(samples.SYMMETRIC_3)), [0, 1, 2])
        self.refused(NoPart, {}, Within, way, [0, 3])
        self.assertEqual(all_moves(Within(way, [0, 1, 2])), all_moves(way))

    def test_the_list_may_be_changed_behind_the_call(self):
        part = [0, 5]
        way = Within(Regular(group_of(samples.SYMMETRIC_3)), part)
        first = all_moves(way)
        part[1] = 3
        part.append(4)
        self.assertEqual((all_moves(way), way.group.many), (first, 2))


class RaisedWays(WayCase):
    def moves(self, table, part, way):
        found = samples.splits(table, part)
        carriers = [side[0] for side in samples.sides_in(table, part)]
        moves = [[None] * (way.size * len(carriers)) for a in range(len(table))]
        for a, i, p in itertools.product(range(len(table)), range(len(carriers)), range(way.size)):
            j, k = found[table[a][carriers[i]]]
            place, spoke = way.moves(k)[p]
            moves[a][i * way.size + p] = (j * way.size + place, spoke)
        return moves

    def check_raised(self, group, part, way):
        kept = list(part)
        made = Raised(group, part, way)
        self.assertEqual(part, kept)
        self.check(made, group.rows, way.spokes, self.moves(group.rows, part, way))

    def test_all_parts(self):
        for name, group in some_groups():
            for spokes in (turns(group), samples.greatest(turns(group))):
                for part in samples.parts(group.rows):
                    small = group_of(samples.inner_table(group.rows, part))
                    for way in few_ways(small, spokes)[-3:]:
                        if way.size * group.many <= 60 * len(part):
                            with self.subTest(name, spokes=spokes, part=part):
                                self.check_raised(group, part, way)

    def test_of_a_way_within(self):
        for name, group in some_groups(("symmetric 3, shuffled", "even 4", "twenty-one")):
            for part in samples.parts(group.rows):
                way = Lifted(group, list(range(group.many)), [0] * group.many)
                with self.subTest(name, part=part):
                    self.check_raised(group, part, Within(way, part))

    def test_a_one_row_way_raised_is_lifted(self):
        for name, group in some_groups():
            for part, marks, way in lifts(group):
                small = group_of(samples.inner_table(group.rows, part))
                one_row = Lifted(small, list(range(len(part))), marks, way.spokes)
                self.assertEqual(all_moves(Raised(group, part, one_row)), all_moves(way), (name, part, marks))

    def test_by_the_whole_group_with_the_unit_as_carrier_nothing_is_changed(self):
        for name, group in some_groups():
            if group.unit == 0:
                way = Regular(group)
                self.assertEqual(all_moves(Raised(group, list(range(group.many)), way)), all_moves(way), name)

    def test_by_the_whole_group_with_another_carrier_things_are_turned(self):
        group = group_of(samples.shuffled(samples.SYMMETRIC_3))
        way = Regular(group)
        wanted = [way.moves(samples.turned_in(group.rows, thing, group.backs[0])) for thing in range(6)]
        self.assertEqual(all_moves(Raised(group, list(range(6)), way)), wanted)
        self.assertNotEqual(wanted, all_moves(way))

    def test_no_part(self):
        for name in ("cyclic 6", "symmetric 3, shuffled", "quaternion", "cyclic 23"):
            group = group_of(samples.TABLES[name])
            for sort, some in samples.no_parts(group.rows).items():
                with self.subTest(name, sort=sort):
                    self.refused(NoPart, {}, Raised, group, some, Regular(group))

    def test_a_way_of_another_group(self):
        group = group_of(samples.SYMMETRIC_3)
        for way in (Regular(group), Regular(group_of([[0]]), 6), Regular(group_of([[1, 0], [0, 1]]), 6)):
            self.refused(OtherGroup, {}, Raised, group, [0, 3], way)
        four, twos = group_of(samples.cyclic(4)), group_of(samples.abelian(2, 2))
        square = group_of(samples.SQUARE)
        self.refused(OtherGroup, {}, Raised, square, [0, 2, 4, 6], Regular(four, 4))
        self.refused(OtherGroup, {}, Raised, square, [0, 1, 2, 3], Regular(twos, 4))
        self.assertEqual(Raised(square, [0, 1, 2, 3], Regular(four, 4)).size, 8)
        self.assertEqual(Raised(square, [0, 2, 4, 6], Regular(twos, 4)).size, 8)

    def test_spokes_that_serve_the_part_but_not_the_group(self):
        group = group_of(samples.SYMMETRIC_3)
        for spokes in range(1, 61):
            three = outcome(Regular, group_of(samples.cyclic(3)), spokes)
            if isinstance(three, Regular):
                if spokes % 6 == 0:
                    self.assertEqual(Raised(group, [0, 1, 2], three).spokes, spokes)
                else:
                    self.refused(BadWheel, {}, Raised, group, [0, 1, 2], three)
        self.refused(BadWheel, {}, Raised, group, [0], Regular(group_of([[0]])))
        self.refused(BadWheel, {}, Raised, group, [0, 3], Regular(group_of(samples.cyclic(2))))

    def test_sixty_places_and_more(self):
        for name in ("twenty", "twenty, shuffled"):
            group = group_of(samples.TABLES[name])
            single = Regular(group_of([[0]]), 20)
            self.assertEqual(Raised(group, [group.unit], times_over(single, 3)).size, 60)
            self.refused(TooGreat, {}, Raised, group, [group.unit], times_over(single, 4))
            part = samples.least_part(group.rows, [next(a for a in range(20) if group.rows[a][a] == group.unit != a)])
            two = Regular(group_of(samples.inner_table(group.rows, part)), 20)
            self.assertEqual(Raised(group, part, times_over(two, 3)).size, 60)
            single = Lifted(two.group, [0, 1], [0, 0], 20)
            self.refused(TooGreat, {}, Raised, group, part, Beside(times_over(two, 3), single))

    def test_each_before_the_next_one(self):
        group = group_of(samples.TABLES["twenty"])
        one, two = group_of([[0]]), group_of([[0, 1], [1, 0]])
        self.refused(NoPart, {}, Raised, group, [0, 1], Regular(two, 20))
        self.refused(NoPart, {}, Raised, group, [0, 1], Regular(one, 7))
        self.refused(NoPart, {}, Raised, group, [], Regular(one, 7))
        self.refused(NoPart, {}, Raised, group, [1], times_over(Regular(one, 20), 50))
        self.refused(OtherGroup, {}, Raised, group, [0], Regular(two, 6))
        self.refused(OtherGroup, {}, Raised, group, [0], times_over(Regular(two, 20), 20))
        self.refused(OtherGroup, {}, Raised, group, [0], times_over(Regular(two, 6), 20))
        self.refused(BadWheel, {}, Raised, group, [0], times_over(Regular(one, 7), 4))
        self.refused(TooGreat, {}, Raised, group, [0], times_over(Regular(one, 20), 4))

    def test_the_list_may_be_changed_behind_the_call(self):
        part = [0, 3]
        way = Raised(group_of(samples.SYMMETRIC_3), part, Regular(group_of(samples.cyclic(2)), 6))
        first = all_moves(way)
        part[1] = 4
        part.append(5)
        self.assertEqual(all_moves(way), first)


class Chains(WayCase):
    def chain(self, way, *makers):
        """Sixty ways, each made of the one before, by these makers in turn."""
        found = way
        for make in makers * (60 // len(makers)):
            found = make(found)
        return found

    def chains(self):
        """Each with a way that does the same and is made at once."""
        group = group_of(samples.shuffled(samples.SYMMETRIC_3))
        full = list(range(6))
        regular = Regular(group)
        marks = samples.one_row_ways(group.rows, full, 6)[1]
        sign = Lifted(group, full, marks)
        none = Lifted(group, full, [0] * 6)
        two = Lifted(group, [3, 4, 5], [4, 2, 0])
        yield "backed", regular, self.chain(regular, Backed)
        yield "backed with spokes", two, self.chain(two, Backed)
        yield "crossed", regular, self.chain(regular, lambda way: Crossed(sign, way), lambda way: Crossed(way, sign))
        yield "crossed with itself", none, self.chain(sign, lambda way: Crossed(way, way))

        def within(way):
            return Within(way, full)

        def raised(way):
            return Raised(group, full, way)

        yield "within", two, self.chain(two, within)
        yield "raised", two, self.chain(two, raised)
        yield "in turn", two, self.chain(two, within, Backed, raised)

    def test_what_each_thing_does(self):
        for name, wanted, way in self.chains():
            with self.subTest(name):
                self.check(way, wanted.group.rows, wanted.spokes, all_moves(wanted))

    def test_one_place_more_by_each(self):
        group = group_of(samples.QUATERNION)
        single = Lifted(group, list(range(8)), [0, 0, 0, 0, 2, 2, 2, 2])
        way = single
        for size in range(2, 61):
            way = Beside(way, single)
            self.assertEqual(way.size, size)
        self.assertEqual(way.moves(5), [(place, 2) for place in range(60)])
        self.assertEqual(way.trace(5), [0, 0, 60, 0])
        self.refused(TooGreat, {}, Beside, way, single)

    def test_to_ask_it_takes_as_many_steps_as_to_ask_any_other(self):
        for name, wanted, way in self.chains():
            for thing in range(way.group.many):
                with self.subTest(name, thing=thing):
                    self.assertEqual(steps_of(lambda: way.moves(thing)), steps_of(lambda: wanted.moves(thing)))
                    self.assertEqual(steps_of(lambda: way.trace(thing)), steps_of(lambda: wanted.trace(thing)))


class NothingIsChanged(WayCase):
    def made(self):
        group = group_of(samples.shuffled(samples.SYMMETRIC_3))
        regular, two = Regular(group), Lifted(group, [3, 4, 5], [4, 2, 0])
        inside = Within(two, [2, 5])
        ways = [regular, two, inside, Raised(group, [2, 5], inside), Backed(two)]
        return ways + [Beside(two, regular), Crossed(two, regular), Beside(two, two), Crossed(two, two)]

    def test_what_is_told_is_the_askers_own(self):
        ways = self.made()
        first = [(all_moves(way), [way.trace(thing) for thing in range(way.group.many)]) for way in ways]
        for way in ways:
            for thing in range(way.group.many):
                told = way.moves(thing)
                told[0] = (9, 9)
                told.append((1, 1))
                counts = way.trace(thing)
                counts[0] = 99
                counts.pop()
        again = [(all_moves(way), [way.trace(thing) for thing in range(way.group.many)]) for way in ways]
        self.assertEqual(again, first)

    def test_moves_are_tuples_in_a_list(self):
        for way in self.made():
            for thing in range(way.group.many):
                self.assertIsInstance(way.moves(thing), list)
                self.assertEqual({move.__class__ for move in way.moves(thing)}, {tuple})
                self.assertIsInstance(way.trace(thing), list)
                self.assertEqual(len(way.trace(thing)), way.spokes)

    def test_neither_by_making_ways_nor_by_refusals(self):
        group = group_of(samples.SYMMETRIC_3)
        regular, two = Regular(group), Lifted(group, [0, 1, 2], [0, 2, 4])
        three, great = Within(regular, [0, 1, 2]), times_over(regular, 10)
        ways = (regular, two, three, great)
        before = [state(way) for way in ways]
        calls = {
            (Regular, group, 7): "BadWheel",
            (Lifted, group, (0, 1), (0, 0)): "NoPart",
            (Lifted, group, (0, 3), (0, 1)): "NoWay",
            (Beside, two, regular): None,
            (Beside, two, three): "OtherGroup",
            (Beside, regular, Regular(group, 12)): "OtherWheel",
            (Beside, great, regular): "TooGreat",
            (Crossed, two, regular): None,
            (Crossed, three, two): "OtherGroup",
            (Crossed, great, regular): "TooGreat",
            (Backed, two): None,
            (Within, two, (0, 3)): None,
            (Within, two, (0, 1)): "NoPart",
            (Raised, group, (0, 1, 2), three): None,
            (Raised, group, (0, 1), three): "NoPart",
            (Raised, group, (0, 3), three): "OtherGroup",
            (Raised, group, (0, 1, 2), times_over(three, 6)): "TooGreat",
        }
        for call, refusal in calls.items():
            told = outcome(call[0], *[list(some) if isinstance(some, tuple) else some for some in call[1:]])
            with self.subTest(call):
                self.assertEqual(told[0] if isinstance(told, tuple) else None, refusal)
                self.assertEqual([state(way) for way in ways], before)


if __name__ == "__main__":
    unittest.main()
