"""Points 2 and 14: stands, split rooms, what brings one key to another."""

import unittest

from recutkeys.halls import Hall
from recutkeys.stands import brings, is_split, is_stand, split
from tests.samples import ODD, Number, Row, Text, arrangements_of, assert_same, small_hall

KEY = (3, 2, 0, 4, 1)


def watching(*marks):
    """A hall of five places and one room that watches these marks."""
    return Hall(5, marks, ["cave"], [])


class IsStandTest(unittest.TestCase):
    def test_what_is_one(self):
        for room in ("cave", "yard"):
            for key in [KEY, (0, 1, 2, 3, 4), (4, 3, 2, 1, 0)]:
                self.assertIs(is_stand(small_hall(), (room, key)), True)
        self.assertIs(is_stand(Hall(2, [], ["a"], []), ("a", (1, 0))), True)
        self.assertIs(is_stand(Hall(12, [], ["a"], []), ("a", tuple(range(12)))), True)

    def test_what_is_none(self):
        things = [
            ["cave", KEY], ("cave", list(KEY)), ("cave", KEY[:4]), ("cave", KEY + (5,)), ("cave", (3, 2, 0, 4, 4)),
            ("cave", (3, 2, 0, 4, 5)), ("cave", (3, 2, 0, 4, -1)), ("cave", (3, 2, 0, 4, True)),
            ("cave", (3, 2, False, 4, 1)),
            ("cave", (3, 2, 0, 4, "1")), ("cave", (3, 2, 0, 4, None)), ("cave", (3, 2, 0, 4, [1])), ("cave", "32041"),
            ("cave", None), ("cave", ()), ("cave", {}), ("attic", KEY), ("gate", KEY), ("Cave", KEY), ("", KEY),
            (None, KEY),
            (0, KEY), (["cave"], KEY), (("cave",), KEY), ({"cave": 0}, KEY), ("cave", KEY, KEY), ("cave",), ("cave", 0),
            (KEY, "cave"), ("cave", (2, 4)), KEY, "cave",
        ]
        for thing in things + ODD + [("cave", thing) for thing in ODD] + [(thing, KEY) for thing in ODD]:
            with self.subTest(thing):
                self.assertIs(is_stand(small_hall(), thing), False)


class IsSplitTest(unittest.TestCase):
    def test_what_is_one(self):
        for one in range(5):
            for other in range(5):
                for room in ("cave", "yard"):
                    self.assertIs(is_split(small_hall(), (room, (one, other))), one != other)

    def test_of_one_watched_mark_and_of_none(self):
        for hall, right in [(watching(3), ("cave", (4,))), (watching(), ("cave", ()))]:
            for thing in [("cave", ()), ("cave", (4,)), ("cave", (4, 2)), ("cave", (5,)), ("cave", 4)]:
                self.assertIs(is_split(hall, thing), thing == right)

    def test_what_is_none(self):
        things = [
            ["cave", (2, 4)], ("cave", [2, 4]), ("cave", (2,)), ("cave", ()), ("cave", (2, 4, 0)), ("cave", (2, 2)),
            ("cave", (2, 4, 2)), ("cave", (2, 5)), ("cave", (-1, 4)), ("cave", (True, 4)), ("cave", (2, False)),
            ("cave", (2, "4")),
            ("cave", (2, None)), ("cave", ([2], 4)), ("cave", ({}, 4)), ("cave", "24"), ("cave", None),
            ("attic", (2, 4)),
            ("gate", (2, 4)), (0, (2, 4)), (["cave"], (2, 4)), ({}, (2, 4)), ("cave", (2, 4), ()), ("cave",),
            ("cave", KEY),
            (2, 4), "cave",
        ]
        for thing in things + ODD + [("cave", thing) for thing in ODD] + [(thing, (2, 4)) for thing in ODD]:
            with self.subTest(thing):
                self.assertIs(is_split(small_hall(), thing), False)


class SplitTest(unittest.TestCase):
    def test_where_the_watched_marks_stand(self):
        assert_same(self, split(small_hall(), ("cave", KEY)), ("cave", (1, 3)))
        assert_same(self, split(small_hall(), ("yard", (4, 3, 2, 1, 0))), ("yard", (2, 0)))

    def test_by_the_marks_rising(self):
        assert_same(self, split(watching(4, 2), ("cave", KEY)), ("cave", (1, 3)))
        assert_same(self, split(watching(3, 1), ("cave", KEY)), ("cave", (4, 0)))

    def test_of_one_watched_mark_and_of_none(self):
        assert_same(self, split(watching(0), ("cave", KEY)), ("cave", (2,)))
        assert_same(self, split(watching(), ("cave", KEY)), ("cave", ()))

    def test_is_a_split_room(self):
        hall = small_hall()
        for key in arrangements_of(5):
            room, places = split(hall, ("yard", key))
            self.assertTrue(is_split(hall, (room, places)))
            self.assertEqual([key[place] for place in places], [2, 4])


class BringsTest(unittest.TestCase):
    def test_moves_each_mark_to_where_it_stands_in_the_other(self):
        assert_same(self, brings((2, 0, 1), (0, 1, 2)), (2, 0, 1))
        assert_same(self, brings((0, 1, 2), (2, 0, 1)), (1, 2, 0))
        assert_same(self, brings((1, 0), (0, 1)), (1, 0))
        for key in arrangements_of(4):
            for other in arrangements_of(4):
                told = brings(key, other)
                self.assertEqual([other[told[place]] for place in range(4)], list(key))

    def test_from_a_key_to_itself_nothing_moves(self):
        assert_same(self, brings(KEY, KEY), (0, 1, 2, 3, 4))


class PlainKindsTest(unittest.TestCase):
    def test_told_are_just_the_told_kinds(self):
        key = Row([Number(mark) for mark in KEY])
        assert_same(self, split(small_hall(), Row([Text("cave"), key])), ("cave", (1, 3)))
        assert_same(self, brings(key, key), (0, 1, 2, 3, 4))

    def test_arguments_by_their_names(self):
        hall = small_hall()
        self.assertTrue(is_stand(thing=("cave", KEY), hall=hall))
        self.assertTrue(is_split(thing=("cave", (1, 3)), hall=hall))
        self.assertEqual(split(stand=("cave", KEY), hall=hall), ("cave", (1, 3)))
        self.assertEqual(brings(other=(2, 0, 1), key=(0, 1, 2)), (1, 2, 0))


if __name__ == "__main__":
    unittest.main()
