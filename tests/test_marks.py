"""Points 2 and 30: where marks can come to."""

import unittest
from time import process_time

from recutkeys.errors import NoName
from recutkeys.halls import Hall
from recutkeys.marks import pairs_of, places_of
from tests.samples import (
    ODD, Number, Row, Text, assert_same, gone_through, halls_and_stands, halls_of_twelve, small_hall,
)

START = ("cave", (0, 1, 4, 3, 2))


class PlacesOfTest(unittest.TestCase):
    def test_held_against_going_through_all_stands(self):
        for hall, stand in halls_and_stands():
            inside = gone_through(hall, stand)
            for mark in range(hall.places()):
                wanted = sorted({(room, key.index(mark)) for room, key in inside})
                assert_same(self, places_of(hall, stand, mark), wanted)

    def test_known_ones(self):
        hall = Hall(3, (), ("b", "a", "c"), [("d", "b", "a", (1, 0, 2), ())])
        assert_same(self, places_of(hall, ("b", (2, 1, 0)), 2), [("a", 1), ("b", 0)])
        assert_same(self, places_of(hall, ("b", (2, 1, 0)), 0), [("a", 2), ("b", 2)])
        assert_same(self, places_of(hall, ("c", (2, 1, 0)), 0), [("c", 2)])

    def test_told_lists_are_the_askers_own(self):
        told = places_of(small_hall(), START, 2)
        places_of(small_hall(), START, 2).clear()
        self.assertEqual(places_of(small_hall(), START, 2), told)


class PairsOfTest(unittest.TestCase):
    def test_held_against_going_through_all_stands(self):
        for hall, stand in halls_and_stands():
            inside = gone_through(hall, stand)
            for one in range(hall.places()):
                for other in range(hall.places()):
                    if one != other:
                        wanted = sorted({(room, key.index(one), key.index(other)) for room, key in inside})
                        assert_same(self, pairs_of(hall, stand, one, other), wanted)

    def test_each_other_way_about(self):
        for hall, stand in halls_and_stands():
            told = pairs_of(hall, stand, 0, 1)
            self.assertEqual(pairs_of(hall, stand, 1, 0), sorted((room, far, near) for room, near, far in told))

    def test_marks_that_stay_together(self):
        # Each of the two comes to all places, but not to any two of these.
        turn, swaps = (2, 3, 4, 5, 6, 7, 8, 9, 10, 11, 0, 1), (1, 0, *range(2, 12))
        hall = Hall(12, (), ("a",), [("c", "a", "a", turn, ()), ("d", "a", "a", swaps, ())])
        stand = ("a", tuple(range(12)))
        assert_same(self, places_of(hall, stand, 5), [("a", place) for place in range(12)])
        assert_same(self, pairs_of(hall, stand, 4, 5), [("a", place, place ^ 1) for place in range(12)])
        apart = [("a", near, far) for near in range(12) for far in range(12) if near // 2 == (far // 2 + 1) % 6]
        assert_same(self, pairs_of(hall, stand, 4, 3), apart)

    def test_told_lists_are_the_askers_own(self):
        told = pairs_of(small_hall(), START, 0, 1)
        pairs_of(small_hall(), START, 0, 1).clear()
        self.assertEqual(pairs_of(small_hall(), START, 0, 1), told)


class NoNameTest(unittest.TestCase):
    def assert_no_name(self, call, asked):
        with self.assertRaises(NoName) as caught:
            call()
        self.assertIs(caught.exception.asked, asked)

    def test_marks_that_are_not_there(self):
        hall, near = small_hall(), [-1, 5, 6, 12, -5, True, False, "2", (2,), [2], {2: 0}, 10 ** 30]
        for thing in near + [thing for thing in ODD if repr(thing) not in "01"]:
            self.assert_no_name(lambda: places_of(hall, START, thing), thing)
            for mark in range(5):
                self.assert_no_name(lambda: pairs_of(hall, START, mark, thing), thing)
                self.assert_no_name(lambda: pairs_of(hall, START, thing, mark), thing)

    def test_of_two_the_first_one(self):
        hall, things = small_hall(), [-1, None, "2", [], 10 ** 30, {}, ("cave", 0)]
        for one in things:
            for other in things:
                self.assert_no_name(lambda: pairs_of(hall, START, one, other), one)

    def test_as_many_marks_as_places(self):
        for places in (2, 3, 12):
            hall, stand = Hall(places, (), ("a",), []), ("a", tuple(range(places)))
            assert_same(self, places_of(hall, stand, places - 1), [("a", places - 1)])
            assert_same(self, pairs_of(hall, stand, 0, places - 1), [("a", 0, places - 1)])
            self.assert_no_name(lambda: places_of(hall, stand, places), places)


class GreatHallsTest(unittest.TestCase):
    def test_within_a_second_or_two(self):
        for hall, stand in halls_of_twelve():
            began = process_time()
            every = [(room, place) for room in hall.rooms() for place in range(12)]
            self.assertEqual(places_of(hall, stand, 0), every)
            self.assertEqual(places_of(hall, stand, 3), every)
            pairs = [(*spot, place) for spot in every for place in range(12) if place != spot[1]]
            self.assertEqual(pairs_of(hall, stand, 11, 0), pairs)
            self.assertEqual(pairs_of(hall, stand, 7, 3), pairs)
            self.assertLess(process_time() - began, 10)


class PlainKindsTest(unittest.TestCase):
    def test_told_are_just_the_told_kinds(self):
        stand = Row([Text("cave"), Row([Number(mark) for mark in START[1]])])
        assert_same(self, places_of(small_hall(), stand, Number(2)), places_of(small_hall(), START, 2))
        assert_same(self, pairs_of(small_hall(), stand, Number(2), Number(0)), pairs_of(small_hall(), START, 2, 0))

    def test_arguments_by_their_names(self):
        hall = small_hall()
        self.assertEqual(places_of(mark=2, stand=START, hall=hall), places_of(hall, START, 2))
        self.assertEqual(pairs_of(other=0, one=2, stand=START, hall=hall), pairs_of(hall, START, 2, 0))


if __name__ == "__main__":
    unittest.main()
