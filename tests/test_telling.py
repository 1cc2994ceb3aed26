"""Points 2, 4, 26 and 29: ways told, full papers."""

import copy
import unittest
from math import factorial
from time import process_time

from recutkeys.arrangements import behind, undone
from recutkeys.bounds import MOST_ROWS
from recutkeys.fences import bars, fence, is_fence
from recutkeys.halls import Hall
from recutkeys.rows import comes_to, gone, is_rows, many_steps, unrolled
from recutkeys.stands import split
from recutkeys.steps import steps
from recutkeys.tables import many_in
from recutkeys.telling import full, is_full, way_to
from recutkeys.ways import played
from tests.samples import (
    ODD, Number, Row, Text, assert_same, gone_through, halls_and_stands, halls_of_twelve, homes_of, small_hall,
    stands_of,
)

START = ("cave", (0, 1, 4, 3, 2))


def assert_rows(case, told):
    """A way in rows of the told kinds."""
    assert_same(case, told, [list(row) for row in told])
    case.assertTrue(is_rows(told))


def one_room(places):
    """A hall of one room, so many places and a few doors, and a stand."""
    home = tuple(range(places))
    turn, swaps = (*home[1:], 0), (1, 0, 3, 2, *home[4:])
    whirl = (1, 2, 0, *home[3:])
    doors = [("turn", "a", "a", turn, ()), ("swaps", "a", "a", swaps, ((0, 2),)), ("whirl", "a", "a", whirl, ())]
    return Hall(places, (0,), ("a",), doors), ("a", home)


class WayToTest(unittest.TestCase):
    def test_just_where_a_way_comes(self):
        for hall, stand in halls_and_stands():
            inside, paper = gone_through(hall, stand), fence(hall, stand)
            for other in stands_of(hall):
                told = way_to(hall, stand, other)
                if other in inside:
                    assert_rows(self, told)
                    self.assertIs(comes_to(hall, stand, told, other), True)
                else:
                    assert_same(self, told, None)
                # Of each stand just one holds.
                self.assertIs(bars(hall, stand, paper, other), told is None)

    def test_gone_step_by_step(self):
        for hall, stand in halls_and_stands()[4:]:
            for other in list(gone_through(hall, stand))[::5]:
                told = way_to(hall, stand, other)
                if many_steps(told) < 20000:
                    self.assertEqual(played(hall, stand, unrolled(told, most=20000))[-1], other)

    def test_the_first_stand_itself(self):
        for hall, stand in halls_and_stands():
            told = way_to(hall, stand, stand)
            assert_rows(self, told)
            self.assertIs(comes_to(hall, stand, told, stand), True)

    def test_from_each_stand_to_each(self):
        hall, stand = halls_and_stands()[8]
        inside = list(gone_through(hall, stand))
        for one in inside[::5]:
            for other in inside:
                self.assertIs(comes_to(hall, one, way_to(hall, one, other), other), True)

    def test_told_lists_are_the_askers_own(self):
        hall, stand = halls_and_stands()[6]
        for other in list(gone_through(hall, stand))[::9]:
            told = way_to(hall, stand, other)
            kept = copy.deepcopy(told)
            for row in told:
                row.clear()
            told.clear()
            self.assertEqual(way_to(hall, stand, other), kept)

    def test_seven_to_twelve_places(self):
        for places in range(7, 13):
            hall, stand = one_room(places)
            began = process_time()
            paper = fence(hall, stand)
            home = stand[1]
            keys = [home[::-1], (1, 0, *home[2:]), (*home[1:], 0), (1, 2, 0, *home[:2:-1]), (0, 1, 2, *home[:2:-1])]
            for other in [("a", key) for key in keys]:
                told = way_to(hall, stand, other)
                self.assertIs(bars(hall, stand, paper, other), told is None)
                if told is not None:
                    assert_rows(self, told)
                    self.assertLessEqual(len(told), MOST_ROWS)
                    self.assertIs(comes_to(hall, stand, told, other), True)
            self.assertLess(process_time() - began, 8)
            # By whole turns and threes: all of an odd number of places, and of an even one all, too.
            self.assertIn(many_in(paper[1]) * places, (factorial(places), factorial(places) // 2))

    def test_great_halls(self):
        for hall, stand in halls_of_twelve():
            began = process_time()
            for other in [(hall.rooms()[-1], (0, 2, 1, *range(11, 2, -1))), (stand[0], (1, 0, *range(2, 12)))]:
                told = way_to(hall, stand, other)
                assert_rows(self, told)
                self.assertIs(comes_to(hall, stand, told, other), True)
            self.assertLess(process_time() - began, 8)


class FullTest(unittest.TestCase):
    def assert_full(self, hall, stand):
        """What is told is a full paper, by the document's words; the paper."""
        told = full(hall, stand)
        paper, lot_ways, table_ways = told
        assert_same(self, told, ((list(paper[0]), list(paper[1])), list(lot_ways), list(table_ways)))
        self.assertIs(type(told), tuple)
        self.assertIs(is_fence(hall, stand, paper), True)
        self.assertEqual(len(lot_ways), len(paper[0]))
        for (spot, one), rows in zip(paper[0], lot_ways):
            assert_rows(self, rows)
            self.assertEqual(gone(hall, split(hall, stand), rows), (spot, one))
        self.assertEqual([len(ways) for ways in table_ways], [len(rows) for _, rows in paper[1]])
        for (_, ones), ways in zip(paper[1], table_ways):
            self.assertIs(type(ways), list)
            for one, rows in zip(ones, ways):
                assert_rows(self, rows)
                self.assertEqual(gone(hall, split(hall, stand), rows), (split(hall, stand), one))
        self.assertIs(is_full(hall, stand, told), True)
        return told

    def test_what_is_told_is_let_by(self):
        for hall, stand in halls_and_stands():
            (lot, tables), _, _ = self.assert_full(hall, stand)
            self.assertEqual(many_in(tables), len(homes_of(hall, stand)))
            self.assertEqual(many_in(tables) * len(lot), len(gone_through(hall, stand)))

    def test_seven_to_twelve_places(self):
        for places in range(7, 13):
            began = process_time()
            self.assert_full(*one_room(places))
            self.assertLess(process_time() - began, 8)

    def test_great_halls(self):
        for hall, stand in halls_of_twelve():
            began = process_time()
            (lot, tables), _, _ = self.assert_full(hall, stand)
            self.assertLess(process_time() - began, 10)
            self.assertEqual((len(lot) % 132, many_in(tables)), (0, 3628800))

    def test_told_lists_are_the_askers_own(self):
        hall, stand = halls_and_stands()[6]
        told = full(hall, stand)
        kept = copy.deepcopy(told)
        for ways in told[2]:
            for rows in ways:
                for row in rows:
                    row.append(("arch", "forth"))
        # Were a list in two of the ways, it would be longer by two steps now.
        for ways, kept_ways in zip(told[2], kept[2]):
            for rows, kept_rows in zip(ways, kept_ways):
                self.assertEqual(rows, [[*row, ("arch", "forth")] for row in kept_rows])
        self.assertEqual(full(hall, stand), kept)


class IsFullTest(unittest.TestCase):
    def setUp(self):
        self.hall, self.stand = halls_and_stands()[6]
        self.paper, self.lot_ways, self.table_ways = full(self.hall, self.stand)

    def assert_full(self, thing, right):
        self.assertIs(is_full(self.hall, self.stand, thing), right)

    def with_lot_way(self, at, rows):
        return (self.paper, [*self.lot_ways[:at], rows, *self.lot_ways[at + 1:]], self.table_ways)

    def with_table_way(self, at, number, rows):
        ways = self.table_ways[at]
        changed = [*ways[:number], rows, *ways[number + 1:]]
        return (self.paper, self.lot_ways, [*self.table_ways[:at], changed, *self.table_ways[at + 1:]])

    def test_ways_otherwise_that_do_as_well(self):
        out = [steps(self.hall, self.stand)[0]]
        for at, rows in enumerate(self.lot_ways):
            last, later = len(rows), []
            for row in rows:
                later.append([(head + 1 if isinstance(head, int) else head, side) for head, side in row])
            again = [*rows, [(last - 1, "forth"), (last - 1, "back"), (last - 1, "forth")]]
            self.assert_full(self.with_lot_way(at, again), True)
            around = [out, *later, [(0, "forth"), (0, "back"), (last, "forth")]]
            self.assert_full(self.with_lot_way(at, around), True)
            # Unrolled it is the same way.
            self.assert_full(self.with_lot_way(at, [list(unrolled(rows))]), True)

    def test_a_way_otherwise(self):
        home = split(self.hall, self.stand)
        step = steps(self.hall, self.stand)[0]
        for at, (spot, _) in enumerate(self.paper[0]):
            self.assert_full(self.with_lot_way(at, [[step]]), gone(self.hall, home, [[step]]) == self.paper[0][at])
            self.assert_full(self.with_lot_way(at, [[]]), spot == home)
            self.assert_full(self.with_lot_way(at, [*self.lot_ways[at], []]), spot == home)
            self.assert_full(self.with_lot_way(at, [[("nosuch", "forth")]]), False)
        for at, (_, rows) in enumerate(self.paper[1]):
            for number, row in enumerate(rows):
                self.assert_full(self.with_table_way(at, number, [[]]), row == (0, 1, 2, 3, 4))
                self.assert_full(self.with_table_way(at, number, [[step]]), False)
                self.assert_full(self.with_table_way(at, number, [[step, ("nosuch", "back")]]), False)
                # Done twice it makes something else, but what undoes itself or moves nothing.
                ways = self.table_ways[at][number]
                twice = [*ways, [(len(ways) - 1, "forth"), (len(ways) - 1, "forth")]]
                back = [*ways, [(len(ways) - 1, "back")]]
                self.assert_full(self.with_table_way(at, number, twice), behind(row, row) == row)
                self.assert_full(self.with_table_way(at, number, back), undone(row) == row)

    def test_the_ways_of_other_rows(self):
        lots, seen = self.lot_ways, 0
        self.assert_full((self.paper, lots[::-1], self.table_ways), False)
        self.assert_full((self.paper, [*lots[1:], lots[0]], self.table_ways), False)
        self.assert_full((self.paper, lots, self.table_ways[::-1]), False)
        for at, ways in enumerate(self.table_ways):
            if len(ways) > 1:
                seen += 1
                turned = [*ways[1:], ways[0]]
                self.assert_full((self.paper, lots, [*self.table_ways[:at], turned, *self.table_ways[at + 1:]]), False)
        self.assertGreater(seen, 1)

    def test_the_right_arrangement_at_another_end(self):
        hall = Hall(3, (), ("a", "b"), [("c", "a", "b", (0, 1, 2), ()), ("d", "a", "a", (1, 0, 2), ())])
        stand = ("a", (0, 1, 2))
        paper, lots, tables = full(hall, stand)
        self.assertEqual([one for _, one in paper[0]], [(0, 1, 2), (0, 1, 2)])
        self.assertIs(is_full(hall, stand, (paper, lots, tables)), True)
        self.assertIs(is_full(hall, stand, (paper, lots[::-1], tables)), False)
        self.assertIs(is_full(hall, stand, (paper, [lots[0]] * 2, tables)), False)
        for at, ways in enumerate(tables):
            for number, rows in enumerate(ways):
                out = [*ways[:number], [*rows, [(len(rows) - 1, "forth"), ("c", "forth")]], *ways[number + 1:]]
                self.assertIs(is_full(hall, stand, (paper, lots, [*tables[:at], out, *tables[at + 1:]])), False)

    def test_the_right_end_by_another_arrangement(self):
        # A lap home ahead of the way to a split room leads there, but makes something else.
        lap = [way for ways in self.table_ways for way in ways if way != [[]]][0]
        for at, rows in enumerate(self.lot_ways):
            self.assert_full(self.with_lot_way(at, [*lap, [(len(lap) - 1, "forth"), *rows[0]]]), False)

    def test_without_its_ways(self):
        lots, tables = self.lot_ways, self.table_ways
        self.assert_full((self.paper, lots, tables), True)
        for at in range(len(lots)):
            self.assert_full((self.paper, lots[:at] + lots[at + 1:], tables), False)
        for at, ways in enumerate(tables):
            self.assert_full((self.paper, lots, tables[:at] + tables[at + 1:]), False)
            for number in range(len(ways)):
                left = ways[:number] + ways[number + 1:]
                self.assert_full((self.paper, lots, [*tables[:at], left, *tables[at + 1:]]), False)
            self.assert_full((self.paper, lots, [*tables[:at], [*ways, [[]]], *tables[at + 1:]]), False)
        self.assert_full((self.paper, [*lots, [[]]], tables), False)
        self.assert_full((self.paper, lots, [*tables, []]), False)
        self.assert_full((self.paper, [], tables), False)
        self.assert_full((self.paper, lots, []), False)

    def test_its_fence(self):
        lot, tables = self.paper
        for paper in [
            (lot[1:], tables), (lot, tables[1:]), (lot, []), ([], tables), [lot, tables], (lot, tables, []), None,
        ]:
            self.assert_full((paper, self.lot_ways, self.table_ways), False)
        for at in range(len(lot)):
            left = (lot[:at] + lot[at + 1:], tables)
            self.assert_full((left, self.lot_ways[:at] + self.lot_ways[at + 1:], self.table_ways), False)
        # It bars nothing that is come to, but what it has more than is needed no way makes.
        home = (0, 1, 2, 3, 4)
        wide = [(room, (place,)) for room in self.hall.rooms() for place in range(5)]
        more = [(spot, home) for spot in wide if spot not in dict(lot)]
        self.assert_full(((lot + more, tables), self.lot_ways + [[[]]] * len(more), self.table_ways), not more)

    def test_of_another_stand(self):
        told = (self.paper, self.lot_ways, self.table_ways)
        for other in stands_of(self.hall)[::3]:
            self.assertIs(is_full(self.hall, other, told), split(self.hall, other) == split(self.hall, self.stand))

    def test_lists_and_tuples(self):
        lots, tables = self.lot_ways, self.table_ways
        for thing in [
            [self.paper, lots, tables], (self.paper, lots), (self.paper, lots, tables, []), (self.paper, tables, lots),
            (self.paper, tuple(lots), tables), (self.paper, lots, tuple(tables)), (lots, self.paper, tables),
            self.paper, (self.paper, lots, [tuple(ways) for ways in tables]),
            (self.paper, [tuple(rows) for rows in lots], tables),
            (self.paper, lots, [[tuple(rows) for rows in ways] for ways in tables]), (),
            (self.paper, [[tuple(row) for row in rows] for rows in lots], tables),
            (self.paper, [[[list(step) for step in row] for row in rows] for rows in lots], tables),
        ]:
            self.assert_full(thing, False)

    def test_of_anything(self):
        lots, tables = self.lot_ways, self.table_ways
        for thing in ODD:
            self.assert_full(thing, False)
            self.assert_full((thing, lots, tables), False)
            self.assert_full((self.paper, thing, tables), False)
            self.assert_full((self.paper, lots, thing), False)
            self.assert_full((self.paper, lots, [thing, *tables[1:]]), False)
            # Nested lists without more may be a way without steps.
            self.assert_full(self.with_lot_way(1, thing), False)
            self.assert_full(self.with_table_way(0, 0, thing), thing == [[]])


class PlainKindsTest(unittest.TestCase):
    def test_told_are_just_the_told_kinds(self):
        hall, start = halls_and_stands()[6]
        stand = Row([Text(start[0]), Row([Number(mark) for mark in start[1]])])
        assert_same(self, full(hall, stand), full(hall, start))
        for room, key in list(gone_through(hall, start))[::9]:
            other = Row([Text(room), Row([Number(mark) for mark in key])])
            assert_same(self, way_to(hall, stand, other), way_to(hall, start, (room, key)))

    def test_arguments_by_their_names(self):
        hall = small_hall()
        self.assertEqual(way_to(other=START, stand=START, hall=hall), way_to(hall, START, START))
        paper = full(stand=START, hall=hall)
        self.assertTrue(is_full(thing=paper, stand=START, hall=hall))


if __name__ == "__main__":
    unittest.main()
