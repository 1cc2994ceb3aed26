"""Points 2 and 12: halls."""

import unittest
from unittest.mock import ANY

from recutkeys.errors import NoName
from recutkeys.halls import Hall
from tests.samples import ODD, Number, Row, Text, assert_same, great_hall, small_hall

GATE = ("gate", "cave", "yard", (1, 0, 2), ((0, 1), (2, 0)))
ARCH = ("arch", "yard", "yard", (0, 1, 2), ())


def plain(places=3, watched=(0, 2), rooms=("cave", "yard"), doors=(ARCH, GATE)):
    """A hall that is unlike another one in just what is told."""
    return Hall(places, watched, rooms, doors)


class ToldTest(unittest.TestCase):
    def assert_plain(self, hall):
        assert_same(self, hall.places(), 3)
        assert_same(self, hall.watched(), (0, 2))
        assert_same(self, hall.rooms(), ["cave", "yard"])
        assert_same(self, hall.doors(), ["arch", "gate"])
        assert_same(self, hall.door("gate"), GATE[1:])
        assert_same(self, hall.door("arch"), ARCH[1:])
        assert_same(self, len(hall), 2)

    def test_told_as_handed_in(self):
        self.assert_plain(plain())

    def test_lists_and_any_order_are_told_in_the_one_order(self):
        gate = ("gate", "cave", "yard", (1, 0, 2), [(2, 0), (0, 1)])
        self.assert_plain(Hall(3, [2, 0], ["yard", "cave"], [gate, ARCH]))
        self.assert_plain(Hall(3, [0, 2], ("yard", "cave"), (ARCH, gate)))

    def test_arguments_by_their_names(self):
        self.assert_plain(Hall(doors=[GATE, ARCH], rooms=["yard", "cave"], watched=[2, 0], places=3))
        self.assertEqual(plain().door(name="arch"), ARCH[1:])

    def test_the_one_and_the_other_room_are_not_exchanged(self):
        hall = plain(doors=[("gate", "yard", "cave", (1, 0, 2), ())])
        assert_same(self, hall.door("gate"), ("yard", "cave", (1, 0, 2), ()))

    def test_asks_of_two_marks_at_one_place(self):
        hall = plain(doors=[("gate", "yard", "cave", (1, 0, 2), ((2, 1), (0, 1)))])
        assert_same(self, hall.door("gate")[3], ((0, 1), (2, 1)))

    def test_the_least_hall(self):
        hall = Hall(2, (), ["a"], [])
        told = [hall.places(), hall.watched(), hall.rooms(), hall.doors(), len(hall)]
        assert_same(self, told, [2, (), ["a"], [], 1])

    def test_the_greatest_hall(self):
        hall = great_hall()
        self.assertEqual((hall.places(), hall.watched(), len(hall)), (12, (10, 11), 8))
        self.assertEqual(len(hall.doors()), 24)
        self.assertEqual(hall.doors(), sorted(hall.doors()))
        self.assertEqual(hall.rooms(), sorted(hall.rooms()))

    def test_a_short_name_goes_ahead_of_a_longer_one(self):
        self.assertEqual(plain(rooms=["b", "aab", "aa", "a"], doors=[]).rooms(), ["a", "aa", "aab", "b"])


class CopyTest(unittest.TestCase):
    def test_told_lists_changed(self):
        hall = plain()
        hall.rooms().append("new")
        hall.doors().clear()
        self.assertEqual(hall, plain())
        self.assertEqual((hall.rooms(), hall.doors()), (["cave", "yard"], ["arch", "gate"]))

    def test_handed_in_lists_changed(self):
        watched, rooms, asks = [2, 0], ["yard", "cave"], [(2, 0), (0, 1)]
        doors = [("gate", "cave", "yard", (1, 0, 2), asks), ARCH]
        hall = Hall(3, watched, rooms, doors)
        for row in (watched, rooms, asks, doors):
            row.clear()
        self.assertEqual(hall, plain())
        self.assertEqual(hall.door("gate"), GATE[1:])

    def test_handed_in_lists_are_left_as_they_are(self):
        watched, rooms, asks = [2, 0], ["yard", "cave"], [(2, 0), (0, 1)]
        gate = ("gate", "cave", "yard", (1, 0, 2), asks)
        doors = [gate, ARCH]
        Hall(3, watched, rooms, doors)
        self.assertEqual((watched, rooms, asks), ([2, 0], ["yard", "cave"], [(2, 0), (0, 1)]))
        self.assertEqual(doors, [gate, ARCH])

    def test_told_are_just_the_told_kinds(self):
        cut = Row([Number(1), Number(0), Number(2)])
        door = Row([Text("gate"), Text("cave"), Text("yard"), cut, Row([Row([Number(2), Number(0)])])])
        hall = Hall(Number(3), Row([Number(2)]), [Text("yard"), Text("cave")], Row([door]))
        told = [hall.places(), hall.watched(), hall.rooms(), hall.doors(), hall.door(Text("gate"))]
        gate = ("cave", "yard", (1, 0, 2), ((2, 0),))
        assert_same(self, told, [3, (2,), ["cave", "yard"], ["gate"], gate])


class EqualTest(unittest.TestCase):
    def test_equal_ones(self):
        gate = ("gate", "cave", "yard", (1, 0, 2), [(2, 0), (0, 1)])
        self.assertTrue(plain() == Hall(3, [2, 0], ["yard", "cave"], [gate, ARCH]))
        self.assertFalse(plain() != Hall(3, [2, 0], ["yard", "cave"], [gate, ARCH]))
        self.assertTrue(great_hall() == great_hall())

    def test_unlike_in_one_thing(self):
        unlike = [
            plain(places=4),
            plain(watched=(0,)), plain(watched=(0, 1)), plain(watched=()),
            plain(rooms=("cave", "yard", "zoo")), plain(rooms=("cave", "yarx")),
            plain(doors=()), plain(doors=(ARCH,)), plain(doors=(ARCH, GATE, ("new",) + GATE[1:])),
            plain(doors=(ARCH, ("gates",) + GATE[1:])),
            plain(doors=(ARCH, ("gate", "yard", "cave") + GATE[3:])),
            plain(doors=(ARCH, ("gate", "cave", "cave") + GATE[3:])),
            plain(doors=(ARCH, ("gate", "yard", "yard") + GATE[3:])),
            plain(doors=(ARCH, GATE[:3] + ((0, 1, 2), GATE[4]))),
            plain(doors=(ARCH, GATE[:4] + ((),))),
            plain(doors=(ARCH, GATE[:4] + (((0, 1),),))),
            plain(doors=(ARCH, GATE[:4] + (((0, 1), (2, 1)),))),
            plain(doors=(GATE, ("arch",) + GATE[1:])),
        ]
        for hall in unlike:
            self.assertFalse(plain() == hall)
            self.assertFalse(hall == plain())
            self.assertTrue(plain() != hall)

    def test_against_a_thing_of_another_kind(self):
        for thing in ODD + [3, (3, (0, 2), ["cave", "yard"], [ARCH, GATE]), ANY, NoName("a"), Hall]:
            self.assertFalse(plain() == thing)
            self.assertTrue(plain() != thing)


class DoorTest(unittest.TestCase):
    def test_no_such_door(self):
        for thing in ODD + ["cave", "yard", "Gate", "gate ", ("gate",), ["gate"], {"gate": 1}, GATE]:
            with self.assertRaises(NoName) as caught:
                plain().door(thing)
            self.assertIs(caught.exception.asked, thing)

    def test_asks_in_any_order_tell_the_same(self):
        hall = small_hall()
        first = [hall.door("lift"), hall.rooms(), hall.watched(), hall.doors(), hall.places(), len(hall)]
        with self.assertRaises(NoName):
            hall.door("cave")
        again = [len(hall), hall.places(), hall.doors(), hall.watched(), hall.rooms(), hall.door("lift")]
        self.assertEqual(first, again[::-1])
        self.assertEqual(hall, small_hall())


if __name__ == "__main__":
    unittest.main()
