"""Points 2 and 38: sights."""

import unittest
from itertools import permutations, product
from math import factorial
from time import process_time

from recutkeys.counts import key_at, many_at
from recutkeys.errors import NoName
from recutkeys.halls import Hall
from recutkeys.sights import clash, seen_first, seen_many, sure
from recutkeys.stands import split
from tests.samples import (
    ODD, Number, Row, Text, assert_same, gone_through, halls_and_stands, halls_of_twelve, small_hall,
)

START = ("cave", (0, 1, 4, 3, 2))


def keys_of(hall, stand, room):
    """The keys with which one can stand in a room, in the order of 27."""
    return [key_at(hall, stand, room, number) for number in range(many_at(hall, stand, room))]


def shows(key, sights):
    """Whether a key shows all sights."""
    return all(key[place] == mark for mark, place in sights)


def clash_of(keys, sights):
    """The clash, told by point 38's words."""
    if not keys:
        return -1
    for number in range(len(sights)):
        if not any(shows(key, sights[:number + 1]) for key in keys):
            return number
    return None


def some_sights(places):
    """None, each one, and of more some."""
    every = list(product(range(places), repeat=2))
    yield from [(), []]
    yield from [[sight] for sight in every]
    for step in (3, 5, 7, 11):
        for first in range(0, len(every), 2):
            yield [every[first], every[(first * step + 1) % len(every)]]
            yield tuple(every[(first + at * step) % len(every)] for at in range(3))
    # Such as one key shows, and with one thing otherwise.
    for one in list(permutations(range(places)))[::7]:
        yield [(mark, place) for place, mark in enumerate(one)]
        yield [(mark, place) for place, mark in enumerate(one)][1:3]
        yield [(one[0], 0), (one[0], 0), (one[1], 1)]
        yield [(one[0], 0), (one[0], 1), (one[1], 1)]
        yield [(one[1], 1), (one[0], 0), (one[-1], 0)]


class SightsTest(unittest.TestCase):
    def assert_sights(self, hall, stand, room, keys, sights):
        """All four hold against a list of all keys of the room."""
        showing = [key for key in keys if shows(key, sights)]
        with self.subTest(room=room, sights=sights):
            assert_same(self, seen_many(hall, stand, room, sights), len(showing))
            assert_same(self, seen_first(hall, stand, room, sights), showing[0] if showing else None)
            every = list(product(range(hall.places()), repeat=2))
            wanted = [sight for sight in every if all(shows(key, [sight]) for key in showing)] if showing else []
            assert_same(self, sure(hall, stand, room, sights), wanted)
            assert_same(self, clash(hall, stand, room, sights), clash_of(keys, sights))

    def test_held_against_a_list_of_all_keys(self):
        for hall, stand in halls_and_stands():
            inside = gone_through(hall, stand)
            for room in hall.rooms():
                keys = keys_of(hall, stand, room)
                self.assertEqual({(room, key) for key in keys}, {other for other in inside if other[0] == room})
                every = list(some_sights(hall.places()))
                for sights in every[::1 if hall.places() < 5 else 3]:
                    self.assert_sights(hall, stand, room, keys, sights)

    def test_no_sights(self):
        for hall, stand in halls_and_stands():
            for room in hall.rooms():
                for sights in ((), []):
                    self.assert_sights(hall, stand, room, keys_of(hall, stand, room), sights)

    def test_all_marks_seen(self):
        for hall, stand in halls_and_stands():
            for room in hall.rooms():
                keys = keys_of(hall, stand, room)
                for key in keys[:20]:
                    sights = [(mark, place) for place, mark in enumerate(key)]
                    for order in (sights, sights[::-1], sights[::2] + sights[1::2]):
                        assert_same(self, seen_many(hall, stand, room, order), 1)
                        assert_same(self, seen_first(hall, stand, room, order), key)
                        assert_same(self, sure(hall, stand, room, order), sorted(sights))
                        assert_same(self, clash(hall, stand, room, order), None)

    def test_rooms_that_can_not_be_come_to(self):
        hall = Hall(3, (0,), ("a", "b"), [("c", "a", "a", (1, 2, 0), ())])
        for sights in ([], [(0, 0)], [(0, 0), (0, 1)], ((2, 1), (1, 1))):
            assert_same(self, seen_many(hall, ("a", (0, 1, 2)), "b", sights), 0)
            assert_same(self, seen_first(hall, ("a", (0, 1, 2)), "b", sights), None)
            assert_same(self, sure(hall, ("a", (0, 1, 2)), "b", sights), [])
            assert_same(self, clash(hall, ("a", (0, 1, 2)), "b", sights), -1)

    def test_one_twice(self):
        hall, stand = halls_and_stands()[6]
        for room in hall.rooms():
            keys = keys_of(hall, stand, room)
            for sight in product(range(5), repeat=2):
                for sights in ([sight, sight], [sight, (0, 1), sight], [(3, 3), sight, sight, (3, 3)]):
                    self.assert_sights(hall, stand, room, keys, sights)

    def test_the_clash_is_the_least_number(self):
        # The marks turn as a ring: after one sight each other one must fit.
        hall = Hall(4, (), ("a",), [("c", "a", "a", (1, 2, 3, 0), ())])
        stand = ("a", (0, 1, 2, 3))
        for sights, number in [
            ([(0, 2)], None), ([(0, 2), (1, 3)], None), ([(0, 2), (1, 2)], 1), ([(0, 2), (0, 3)], 1),
            ([(0, 2), (1, 3), (2, 0), (3, 0)], 3), ([(0, 2), (0, 2), (2, 1), (3, 3)], 2), ([], None),
        ]:
            assert_same(self, clash(hall, stand, "a", sights), number)
            assert_same(self, clash(hall, stand, "a", tuple(sights)), number)

    def test_the_clash_over_split_rooms(self):
        # Watched, mark 0 parts the room; in each split room something else is seen not to fit, and the last tells.
        hall, stand = halls_and_stands()[4]
        keys = keys_of(hall, stand, "board")
        for sights in permutations([(0, 0), (1, 1), (2, 2), (3, 3)]):
            self.assert_sights(hall, stand, "board", keys, sights)


class NoNameTest(unittest.TestCase):
    def test_of_rooms_that_are_not_there(self):
        for room in ["attic", "gate", "Cave", "cave ", ("cave", (4, 2)), ["cave"], {"cave": 0}] + ODD:
            for told in (seen_many, seen_first, sure, clash):
                for sights in ([], [(0, 0)], ((0, 0), (0, 1))):
                    with self.assertRaises(NoName) as caught:
                        told(small_hall(), START, room, sights)
                    self.assertIs(caught.exception.asked, room)


class GreatHallsTest(unittest.TestCase):
    def test_within_a_second_or_two(self):
        for hall, stand in halls_of_twelve():
            began = process_time()
            room = hall.rooms()[-1]
            for sights, many in [
                ([], 132 * factorial(10)), ([(0, 0)], 110 * factorial(9)), ([(3, 5), (7, 1)], factorial(10)),
                ([(3, 5), (1, 5)], 0), ([(mark, 11 - mark) for mark in range(12)], 1),
                ([(mark, 11 - mark) for mark in range(8)], 24), ([(0, 4), (3, 4), (0, 4)], 0),
            ]:
                assert_same(self, seen_many(hall, stand, room, sights), many)
                first = seen_first(hall, stand, room, sights)
                self.assertEqual(first is None, many == 0)
                if many:
                    self.assertTrue(shows(first, sights))
                    assert_same(self, clash(hall, stand, room, sights), None)
                else:
                    assert_same(self, clash(hall, stand, room, sights), 1)
                told = sure(hall, stand, room, sights)
                self.assertEqual(len(told), 12 if many == 1 else len(sights) if many else 0)
                self.assertTrue(set(told) >= set(sights) or not many)
            self.assertLess(process_time() - began, 20)

    def test_the_first_one(self):
        hall, stand = halls_of_twelve()[0]
        # Split rooms first: 3 and 7 as low as can be; then the other marks rising.
        wanted = (3, 7, 0, 1, 2, 4, 5, 6, 8, 9, 10, 11)
        assert_same(self, seen_first(hall, stand, "a", []), wanted)
        assert_same(self, seen_first(hall, stand, "a", [(5, 0)]), (5, 3, 7, 0, 1, 2, 4, 6, 8, 9, 10, 11))
        assert_same(self, seen_first(hall, stand, "a", [(7, 0), (11, 2)]), (7, 3, 11, 0, 1, 2, 4, 5, 6, 8, 9, 10))
        self.assertEqual(split(hall, ("a", wanted)), ("a", (0, 1)))

    def test_of_pairs_that_stay_together(self):
        turn, swaps = (2, 3, 4, 5, 6, 7, 8, 9, 10, 11, 0, 1), (1, 0, *range(2, 12))
        hall = Hall(12, (), ("a",), [("c", "a", "a", turn, ()), ("d", "a", "a", swaps, ())])
        stand = ("a", tuple(range(12)))
        assert_same(self, seen_many(hall, stand, "a", [(4, 0)]), 32)
        assert_same(self, sure(hall, stand, "a", [(4, 0)]), [(4, 0), (5, 1)])
        assert_same(self, sure(hall, stand, "a", [(4, 0), (0, 9)]), [(0, 9), (1, 8), (4, 0), (5, 1)])
        assert_same(self, clash(hall, stand, "a", [(4, 0), (0, 9), (1, 8), (5, 2)]), 3)


class PlainKindsTest(unittest.TestCase):
    def test_told_are_just_the_told_kinds(self):
        hall, start = halls_and_stands()[6]
        stand = Row([Text(start[0]), Row([Number(mark) for mark in start[1]])])
        for room in hall.rooms():
            for plain in ([], [(0, 1)], [(0, 1), (3, 4)], [(2, 2), (2, 3)]):
                sights = Row([Row([Number(mark), Number(place)]) for mark, place in plain])
                for told in (seen_many, seen_first, sure, clash):
                    assert_same(self, told(hall, stand, Text(room), sights), told(hall, start, room, plain))

    def test_told_lists_are_the_askers_own(self):
        hall, stand = halls_and_stands()[6]
        sights = [(2, 0)]
        told = sure(hall, stand, "cave", sights)
        sure(hall, stand, "cave", sights).clear()
        self.assertEqual(sure(hall, stand, "cave", sights), told)
        self.assertEqual(sights, [(2, 0)])

    def test_arguments_by_their_names(self):
        hall = small_hall()
        self.assertEqual(seen_many(sights=[], room="cave", stand=START, hall=hall), 5)
        self.assertEqual(seen_first(sights=[(0, 0)], room="cave", stand=START, hall=hall), START[1])
        self.assertEqual(sure(sights=[], room="yard", stand=START, hall=hall), [(0, 0), (1, 2), (2, 1), (3, 4), (4, 3)])
        self.assertEqual(clash(sights=[(0, 0), (1, 0)], room="cave", stand=START, hall=hall), 1)


if __name__ == "__main__":
    unittest.main()
