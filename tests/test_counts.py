"""Points 2 and 27: how many, and keys by their numbers."""

import unittest
from math import factorial
from time import process_time

from recutkeys.counts import home_many, key_at, many_at, many_stands, number_of
from recutkeys.errors import NoName, NoNumber
from recutkeys.halls import Hall
from recutkeys.stands import split
from tests.samples import (
    ODD, Number, Row, Text, assert_same, gone_through, halls_and_stands, halls_of_twelve, homes_of, small_hall,
    stands_of,
)

START = ("cave", (0, 1, 4, 3, 2))


def keys_in_order(hall, stand, room):
    """The keys with which one can stand in a room, as point 27 numbers them, from going through all stands."""
    others = [other for other in gone_through(hall, stand) if other[0] == room]
    places = range(hall.places())
    ordered = sorted(others, key=lambda other: (split(hall, other), [other[1].index(mark) for mark in places]))
    return [key for _, key in ordered]


class HowManyTest(unittest.TestCase):
    def test_held_against_going_through_all_stands(self):
        for hall, stand in halls_and_stands():
            inside = gone_through(hall, stand)
            assert_same(self, home_many(hall, stand), len(homes_of(hall, stand)))
            assert_same(self, many_stands(hall, stand), len(inside))
            for room in hall.rooms():
                assert_same(self, many_at(hall, stand, room), len([other for other in inside if other[0] == room]))

    def test_rooms_that_can_not_be_come_to(self):
        hall = Hall(3, (), ("a", "b", "c"), [("d", "a", "b", (1, 0, 2), ())])
        self.assertEqual([many_at(hall, ("a", (0, 1, 2)), room) for room in ("a", "b", "c")], [1, 1, 0])
        self.assertEqual([many_at(hall, ("c", (0, 1, 2)), room) for room in ("a", "b", "c")], [0, 0, 1])

    def test_of_hundreds_of_millions(self):
        turn, swap, home = (*range(1, 12), 0), (1, 0, *range(2, 12)), tuple(range(12))
        hall = Hall(12, (), ("a", "b"), [("c", "a", "b", turn, ()), ("d", "b", "a", swap, ())])
        self.assertEqual(home_many(hall, ("a", home)), 11)
        hall = Hall(12, (), ("a", "b"), [("c", "a", "a", turn, ()), ("d", "b", "a", swap, ())])
        self.assertEqual(many_at(hall, ("a", home), "b"), 12)
        doors = [("c", "a", "a", turn, ()), ("d", "b", "a", swap, ()), ("e", "b", "b", swap, ())]
        hall = Hall(12, (), ("a", "b"), doors)
        assert_same(self, many_at(hall, ("a", home), "b"), factorial(12))
        assert_same(self, many_stands(hall, ("b", home)), 2 * factorial(12))
        for number in (0, 1, 479001599, 123456789):
            key = key_at(hall, ("b", home), "a", number)
            assert_same(self, number_of(hall, ("b", home), "a", key), number)
        # With no mark watched and all that can be made, keys rise by the marks' places.
        assert_same(self, key_at(hall, ("b", turn), "a", 0), home)
        assert_same(self, key_at(hall, ("b", turn), "a", 1), (*range(10), 11, 10))
        assert_same(self, key_at(hall, ("b", turn), "a", 479001599), home[::-1])


class NumbersTest(unittest.TestCase):
    def test_in_their_order(self):
        seen = 0
        for hall, stand in halls_and_stands():
            for room in hall.rooms():
                keys = keys_in_order(hall, stand, room)
                seen += len(keys)
                for number, key in enumerate(keys):
                    assert_same(self, key_at(hall, stand, room, number), key)
                    assert_same(self, number_of(hall, stand, room, key), number)
        self.assertGreater(seen, 300)

    def test_from_whichever_stand_of_the_same(self):
        hall, stand = halls_and_stands()[8]
        keys = keys_in_order(hall, stand, "a")
        for other in gone_through(hall, stand):
            self.assertEqual([key_at(hall, other, "a", number) for number in range(len(keys))], keys)

    def assert_no_number(self, call, asked):
        with self.assertRaises(NoNumber) as caught:
            call()
        self.assertIs(caught.exception.asked, asked)

    def test_numbers_that_are_none(self):
        for hall, stand in halls_and_stands()[:9]:
            for room in hall.rooms():
                many = many_at(hall, stand, room)
                for number in [-1, many, many + 1, -many - 1, 10 ** 30, True, False, "0", "", None, (0,), [0], {0: 0}]:
                    self.assert_no_number(lambda: key_at(hall, stand, room, number), number)
                if many:
                    self.assertEqual(split(hall, (room, key_at(hall, stand, room, many - 1)))[0], room)

    def test_numbers_of_anything(self):
        hall = small_hall()
        for thing in ODD:
            # Five keys can be stood with in the cave.
            if repr(thing) not in "01234":
                self.assert_no_number(lambda: key_at(hall, START, "cave", thing), thing)

    def test_keys_that_can_not_be_stood_with(self):
        for hall, stand in halls_and_stands():
            inside = gone_through(hall, stand)
            for room, key in stands_of(hall):
                if (room, key) not in inside:
                    self.assert_no_number(lambda: number_of(hall, stand, room, key), key)

    def test_keys_that_are_none(self):
        hall, key = small_hall(), START[1]
        near = [
            list(key), key[:4], (*key, 5), (0, 1, 4, 3, 3), (0, 1, 4, 3, 5), (0, True, 4, 3, 2),
            (False, 1, 4, 3, 2), START,
        ]
        for thing in near + ODD:
            for room in ("cave", "yard"):
                self.assert_no_number(lambda: number_of(hall, START, room, thing), thing)


class NoNameTest(unittest.TestCase):
    def test_of_rooms_that_are_not_there(self):
        hall = small_hall()
        for room in ["attic", "gate", "Cave", "cave ", ("cave", (4, 2)), ["cave"], {"cave": 0}] + ODD:
            for call in [
                lambda: many_at(hall, START, room), lambda: key_at(hall, START, room, 0),
                lambda: number_of(hall, START, room, START[1]),
            ]:
                with self.assertRaises(NoName) as caught:
                    call()
                self.assertIs(caught.exception.asked, room)

    def test_goes_ahead_of_no_number(self):
        hall = small_hall()
        for thing in [-1, None, "0", [], (0, 1, 2, 3, 4)] + ODD:
            for room in ("attic", None, ["cave"]):
                for told in (key_at, number_of):
                    with self.assertRaises(NoName) as caught:
                        told(hall, START, room, thing)
                    self.assertIs(caught.exception.asked, room)


class GreatHallsTest(unittest.TestCase):
    def test_within_a_second_or_two(self):
        for (hall, stand), spots in zip(halls_of_twelve(), (132, 1056)):
            began = process_time()
            self.assertEqual(home_many(hall, stand), 3628800)
            self.assertEqual(many_stands(hall, stand), spots * 3628800)
            room = hall.rooms()[-1]
            many = many_at(hall, stand, room)
            self.assertEqual(many, 132 * 3628800)
            before = None
            for number in (0, 1, 3628799, 3628800, many // 3, many - 1):
                key = key_at(hall, stand, room, number)
                self.assertEqual(number_of(hall, stand, room, key), number)
                order = (split(hall, (room, key)), [key.index(mark) for mark in range(12)])
                self.assertTrue(before is None or before < order)
                before = order
            self.assertLess(process_time() - began, 10)


class PlainKindsTest(unittest.TestCase):
    def test_told_are_just_the_told_kinds(self):
        hall, start = halls_and_stands()[8]
        stand = Row([Text(start[0]), Row([Number(mark) for mark in start[1]])])
        room = Text(start[0])
        assert_same(self, home_many(hall, stand), home_many(hall, start))
        assert_same(self, many_at(hall, stand, room), many_at(hall, start, start[0]))
        assert_same(self, many_stands(hall, stand), many_stands(hall, start))
        for number in range(many_at(hall, start, start[0])):
            key = key_at(hall, start, start[0], number)
            assert_same(self, key_at(hall, stand, room, Number(number)), key)
            assert_same(self, number_of(hall, stand, room, Row([Number(mark) for mark in key])), number)

    def test_arguments_by_their_names(self):
        hall = small_hall()
        self.assertEqual(home_many(stand=START, hall=hall), 1)
        self.assertEqual(many_at(room="cave", stand=START, hall=hall), 5)
        self.assertEqual(many_stands(stand=START, hall=hall), 6)
        key = key_at(number=2, room="cave", stand=START, hall=hall)
        self.assertEqual(number_of(key=key, room="cave", stand=START, hall=hall), 2)


if __name__ == "__main__":
    unittest.main()
