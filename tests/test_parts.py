"""Points 2, 20, 21 and 22: parts, tree ways, loops."""

import unittest
from time import process_time

from recutkeys.errors import NoPart
from recutkeys.halls import Hall
from recutkeys.parts import loops, part, tree_way
from recutkeys.stands import split
from recutkeys.tables import many_in, tables_of
from recutkeys.ways import made, played
from tests.samples import (
    ODD, Number, Row, Text, all_made, assert_same, gone_through, halls_and_stands, halls_of_twelve, homes_of,
    small_hall, spots_of,
)

START = ("cave", (0, 1, 4, 3, 2))


class PartTest(unittest.TestCase):
    def test_all_that_can_be_come_to_rising(self):
        for hall, stand in halls_and_stands():
            spots = {split(hall, other) for other in gone_through(hall, stand)}
            assert_same(self, part(hall, stand), sorted(spots))

    def test_known_ones(self):
        turned = [("cave", (0, 3)), ("cave", (1, 4)), ("cave", (2, 0)), ("cave", (3, 1)), ("cave", (4, 2))]
        assert_same(self, part(small_hall(), START), [*turned, ("yard", (1, 3))])
        assert_same(self, part(Hall(3, (), ("b", "a"), []), ("b", (0, 1, 2))), [("b", ())])
        doors = [("c", "b", "a", (1, 0, 2), ())]
        assert_same(self, part(Hall(3, (), ("b", "a"), doors), ("b", (0, 1, 2))), [("a", ()), ("b", ())])

    def test_told_lists_are_the_askers_own(self):
        hall = small_hall()
        told = part(hall, START)
        part(hall, START).clear()
        self.assertEqual(part(hall, START), told)


class TreeWayTest(unittest.TestCase):
    def test_a_way_of_fewest_steps(self):
        for hall, stand in halls_and_stands():
            fewest = {}
            for other, many in gone_through(hall, stand).items():
                spot = split(hall, other)
                fewest[spot] = min(many, fewest.get(spot, many))
            for spot, many in fewest.items():
                way = tree_way(hall, stand, spot)
                assert_same(self, way, tuple(way))
                self.assertEqual(len(way), many)
                self.assertEqual(split(hall, played(hall, stand, way)[-1]), spot)

    def test_to_the_first_one(self):
        for hall, stand in halls_and_stands():
            assert_same(self, tree_way(hall, stand, split(hall, stand)), ())

    def assert_refused(self, hall, stand, asked):
        with self.assertRaises(NoPart) as caught:
            tree_way(hall, stand, asked)
        self.assertIs(caught.exception.asked, asked)

    def test_what_isnt_in_the_part(self):
        for hall, stand in halls_and_stands():
            inside = part(hall, stand)
            for spot in spots_of(hall):
                if spot not in inside:
                    self.assert_refused(hall, stand, spot)

    def test_of_anything(self):
        near = [
            ["cave", (4, 2)], ("cave", [4, 2]), ("cave", (4, 2), ()), ("cave", (4,)), ("cave", (4, 2, 0)), ("cave", 4),
            ("attic", (4, 2)), (["cave"], (4, 2)), ("cave", ({}, 2)), {}, [[]], ("cave", (4, 4)), ("cave", (-1, 2)),
            START, ("cave", (True, 4)), ("cave", (False, 3)),
        ]
        for thing in near + ODD + [("cave", thing) for thing in ODD] + [(thing, (4, 2)) for thing in ODD]:
            self.assert_refused(small_hall(), START, thing)
            self.assert_refused(small_hall(), ("yard", (4, 2, 0, 1, 3)), thing)
        # Python takes ("cave", (True, 4)) for this one, but a truth is no number.
        self.assertEqual(tree_way(small_hall(), START, ("cave", (1, 4))), (("arch", "forth"), ("arch", "forth")))


class LoopsTest(unittest.TestCase):
    def test_they_make_all_home_arrangements(self):
        for hall, stand in halls_and_stands():
            ways = loops(hall, stand)
            assert_same(self, ways, [tuple(way) for way in ways])
            for way in ways:
                self.assertEqual(split(hall, played(hall, stand, way)[-1]), split(hall, stand))
            makers = [made(hall, stand, way) for way in ways]
            self.assertEqual(all_made(hall.places(), makers), homes_of(hall, stand))

    def test_home_arrangements_of_each_stand_behind(self):
        hall, stand = halls_and_stands()[6]
        for other in sorted(gone_through(hall, stand))[::5]:
            makers = [made(hall, other, way) for way in loops(hall, other)]
            self.assertEqual(all_made(5, makers), homes_of(hall, other))

    def test_told_lists_are_the_askers_own(self):
        hall, stand = halls_and_stands()[6]
        told = loops(hall, stand)
        loops(hall, stand).clear()
        self.assertEqual(loops(hall, stand), told)


class GreatHallsTest(unittest.TestCase):
    def test_within_a_second_or_two(self):
        for (hall, stand), many in zip(halls_of_twelve(), (132, 1056)):
            began = process_time()
            spots, ways = part(hall, stand), loops(hall, stand)
            tree_way(hall, stand, spots[-1])
            self.assertLess(process_time() - began, 5)
            self.assertEqual(len(spots), many)
            makers = [made(hall, stand, way) for way in ways]
            # All marks but the watched ones change places in all ways.
            self.assertEqual(many_in(tables_of(range(12), makers)), 3628800)
            for spot in spots[::50]:
                last = played(hall, stand, tree_way(hall, stand, spot))[-1]
                self.assertEqual(split(hall, last), spot)


class PlainKindsTest(unittest.TestCase):
    def test_told_are_just_the_told_kinds(self):
        stand = Row([Text("cave"), Row([Number(mark) for mark in START[1]])])
        spot = Row([Text("cave"), Row([Number(1), Number(4)])])
        assert_same(self, part(small_hall(), stand), part(small_hall(), START))
        assert_same(self, tree_way(small_hall(), stand, spot), tree_way(small_hall(), START, ("cave", (1, 4))))
        assert_same(self, loops(small_hall(), stand), loops(small_hall(), START))

    def test_arguments_by_their_names(self):
        hall = small_hall()
        self.assertEqual(part(stand=START, hall=hall), part(hall, START))
        self.assertEqual(tree_way(spot=("cave", (0, 3)), stand=START, hall=hall), (("arch", "forth"),))
        self.assertEqual(loops(stand=START, hall=hall), loops(hall, START))


if __name__ == "__main__":
    unittest.main()
