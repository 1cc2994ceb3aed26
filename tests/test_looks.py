"""Points 2, 4 and 32: looks."""

import unittest
from math import comb, factorial
from time import process_time

from recutkeys.bounds import MOST_SPOTS
from recutkeys.counts import many_at
from recutkeys.errors import NoName, TooMany
from recutkeys.halls import Hall
from recutkeys.looks import looks
from recutkeys.parts import part
from recutkeys.stands import split
from tests.samples import ODD, Number, Row, Text, assert_same, gone_through, halls_and_stands, small_hall

START = ("cave", (0, 1, 4, 3, 2))


def look_of(key, colours):
    """The colours of a key's marks, by the places."""
    return tuple(colours[mark] for mark in key)


def some_colours(places):
    """All alike, all unlike, and others, of any size."""
    yield [0] * places
    yield list(range(places))
    yield list(range(places, 0, -1))
    yield [-(10 ** 40)] * (places - 1) + [10 ** 40]
    yield [mark % 2 for mark in range(places)]
    yield [(mark + 1) // 2 - 2 for mark in range(places)]
    yield [5, *[10 ** 20] * (places - 1)]


def rooms_in_a_row(places, rooms, cuts):
    """So many rooms in a row, in the first of which keys are cut so, and a stand there."""
    home = tuple(range(places))
    names = [chr(97 + number) for number in range(rooms)]
    doors = [("cut" + chr(97 + number), "a", "a", cut, ()) for number, cut in enumerate(cuts)]
    doors += [("to" + other, one, other, home, ()) for one, other in zip(names, names[1:])]
    return Hall(places, (), names, doors), ("a", home)


def exchanges(places, rooms):
    """So many rooms in a row, in which all keys can be made, and a stand."""
    home = tuple(range(places))
    return rooms_in_a_row(places, rooms, [(*home[1:], 0), (1, 0, *home[2:])])


def two_sixes(rooms):
    """So many rooms in a row, in which the marks of six places come to each other, and those of six others."""
    low, high = tuple(range(6)), tuple(range(6, 12))
    turns = [(*low[1:], 0, *high), (*low, *high[1:], 6)]
    swaps = [(1, 0, *low[2:], *high), (*low, 7, 6, *high[2:])]
    return rooms_in_a_row(12, rooms, turns + swaps)


class LooksTest(unittest.TestCase):
    def test_held_against_going_through_all_stands(self):
        for hall, stand in halls_and_stands():
            inside = gone_through(hall, stand)
            for colours in some_colours(hall.places()):
                many = len({(split(hall, other), look_of(other[1], colours)) for other in inside})
                for room in hall.rooms():
                    wanted = sorted({look_of(key, colours) for place, key in inside if place == room})
                    assert_same(self, looks(hall, stand, room, colours), wanted)
                    assert_same(self, looks(hall, stand, room, tuple(colours), most=many), wanted)
                    self.assert_refused(hall, stand, room, colours, many - 1)
                    self.assert_refused(hall, stand, room, tuple(colours), 0)

    def assert_refused(self, hall, stand, room, colours, most):
        with self.assertRaises(TooMany) as caught:
            looks(hall, stand, room, colours, most=most)
        assert_same(self, caught.exception.most, most)

    def test_from_each_stand_of_the_part_the_same(self):
        hall, stand = halls_and_stands()[6]
        for colours in some_colours(5):
            wanted = [looks(hall, stand, room, colours) for room in hall.rooms()]
            for other in list(gone_through(hall, stand))[::5]:
                self.assertEqual([looks(hall, other, room, colours) for room in hall.rooms()], wanted)

    def test_marks_all_alike_and_all_unlike(self):
        for hall, stand in halls_and_stands():
            for room in hall.rooms():
                many = many_at(hall, stand, room)
                assert_same(self, looks(hall, stand, room, [7] * hall.places()), [(7,) * hall.places()][:many])
                self.assertEqual(len(looks(hall, stand, room, range(hall.places()))), many)

    def test_a_room_that_can_not_be_come_to(self):
        hall = Hall(3, (0,), ("a", "b"), [("c", "a", "a", (1, 2, 0), ())])
        for colours in some_colours(3):
            assert_same(self, looks(hall, ("a", (0, 1, 2)), "b", colours), [])
            # What is come to of other rooms is counted all the same.
            assert_same(self, looks(hall, ("a", (0, 1, 2)), "b", colours, most=3), [])
            self.assert_refused(hall, ("a", (0, 1, 2)), "b", colours, 2)

    def test_counted_over_all_rooms(self):
        hall, stand = exchanges(5, 3)
        colours = [1, 1, 0, 0, 0]
        for room in hall.rooms():
            wanted = looks(hall, stand, room, colours, most=3 * comb(5, 2))
            self.assertEqual(len(wanted), comb(5, 2))
            assert_same(self, wanted, sorted(wanted))
            self.assert_refused(hall, stand, room, colours, 3 * comb(5, 2) - 1)

    def test_counted_by_split_rooms(self):
        # Watched, mark 0 stands on five places: a look is counted at each of these where it is seen there.
        hall, stand = exchanges(5, 1)
        watched = Hall(5, (0,), hall.rooms(), [(name, *hall.door(name)) for name in hall.doors()])
        assert_same(self, looks(watched, stand, "a", [1] * 5, most=5), [(1,) * 5])
        self.assert_refused(watched, stand, "a", [1] * 5, 4)
        self.assertEqual(len(looks(watched, stand, "a", [1, 1, 0, 0, 0], most=20)), 10)
        self.assert_refused(watched, stand, "a", [1, 1, 0, 0, 0], 19)
        self.assertEqual(len(part(watched, stand)), 5)

    def test_where_no_most_is_told(self):
        assert_same(self, MOST_SPOTS, 2000)
        hall, stand = exchanges(6, 2)
        self.assertEqual(len(looks(hall, stand, "b", range(6))), 720)
        self.assertEqual(looks(hall, stand, "b", range(6)), looks(hall, stand, "b", range(6), most=1440))
        hall, stand = exchanges(6, 3)
        self.assert_too_many_unsaid(hall, stand, range(6))
        self.assertEqual(len(looks(hall, stand, "c", [0, 0, 1, 2, 3, 4])), 360)

    def assert_too_many_unsaid(self, hall, stand, colours):
        with self.assertRaises(TooMany) as caught:
            looks(hall, stand, "c", colours)
        assert_same(self, caught.exception.most, MOST_SPOTS)

    def test_just_two_thousand(self):
        # Two sixes, each with three of one colour and three of another, in five rooms.
        colours = [0, 0, 0, 1, 1, 1] * 2
        self.assertEqual(5 * comb(6, 3) ** 2, MOST_SPOTS)
        hall, stand = two_sixes(5)
        self.assertEqual(len(looks(hall, stand, "c", colours)), 400)
        self.assertEqual(len(looks(hall, stand, "c", colours, most=2000)), 400)
        self.assert_refused(hall, stand, "c", colours, 1999)
        self.assert_too_many_unsaid(*two_sixes(6), colours)

    def test_of_twelve_places(self):
        home = tuple(range(12))
        hall = Hall(12, (), ("a",), [("turn", "a", "a", (*home[1:], 0), ()), ("swap", "a", "a", (1, 0, *home[2:]), ())])
        began = process_time()
        for many in (0, 1, 4, 6):
            told = looks(hall, ("a", home), "a", [10 ** 30] * many + [0] * (12 - many))
            self.assertEqual(len(told), comb(12, many))
            self.assertTrue(all(look.count(0) == 12 - many for look in told))
        # Of hundreds of millions no more are gone through than may be told.
        self.assert_refused(hall, ("a", home), "a", home, 2000)
        self.assert_refused(hall, ("a", home), "a", home, factorial(6))
        self.assertLess(process_time() - began, 8)


class NoNameTest(unittest.TestCase):
    def test_of_rooms_that_are_not_there(self):
        for room in ["attic", "gate", "Cave", "cave ", ("cave", (4, 2)), ["cave"], {"cave": 0}] + ODD:
            for most in (2000, 0):
                # Ahead of TooMany, which is due, too.
                with self.assertRaises(NoName) as caught:
                    looks(small_hall(), START, room, [0] * 5, most=most)
                self.assertIs(caught.exception.asked, room)


class PlainKindsTest(unittest.TestCase):
    def test_told_are_just_the_told_kinds(self):
        hall, start = halls_and_stands()[6]
        stand = Row([Text(start[0]), Row([Number(mark) for mark in start[1]])])
        for colours in some_colours(5):
            shown = Row([Number(colour) for colour in colours])
            for room in hall.rooms():
                assert_same(self, looks(hall, stand, Text(room), shown), looks(hall, start, room, colours))

    def test_told_lists_are_the_askers_own(self):
        hall, stand = halls_and_stands()[6]
        colours = [3, 1, 1, 2, 2]
        told = looks(hall, stand, "cave", colours)
        looks(hall, stand, "cave", colours).clear()
        assert_same(self, looks(hall, stand, "cave", colours), told)
        self.assertEqual(colours, [3, 1, 1, 2, 2])

    def test_arguments_by_their_names(self):
        told = looks(most=100, colours=[0, 0, 1, 1, 1], room="yard", stand=START, hall=small_hall())
        self.assertEqual(told, looks(small_hall(), START, "yard", [0, 0, 1, 1, 1]))

    def test_the_most_by_its_name_alone(self):
        with self.assertRaises(TypeError):
            looks(small_hall(), START, "yard", [0] * 5, 2000)


if __name__ == "__main__":
    unittest.main()
