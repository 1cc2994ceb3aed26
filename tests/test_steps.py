"""Points 2 and 15: steps."""

import unittest

from recutkeys.errors import NoStep
from recutkeys.halls import Hall
from recutkeys.halltexts import show_hall
from recutkeys.stands import brings, is_stand, split
from recutkeys.steps import done, steps
from tests.samples import ODD, Number, Row, Text, arrangements_of, assert_same, great_hall, small_hall

HOME = (0, 1, 2, 3, 4)
TURN = (1, 2, 0)


def turning(asks, watched=(0, 2)):
    """A hall with one door, from room a to room b, whose cut turns three places."""
    return Hall(3, watched, ["a", "b"], [("gate", "a", "b", TURN, asks)])


class DoneTest(unittest.TestCase):
    def test_forth_the_cut_moves_what_stands_on_each_place(self):
        assert_same(self, done(turning(()), ("a", (0, 1, 2)), ("gate", "forth")), ("b", (2, 0, 1)))

    def test_back_the_cut_is_undone(self):
        assert_same(self, done(turning(()), ("b", (2, 0, 1)), ("gate", "back")), ("a", (0, 1, 2)))
        assert_same(self, done(turning(()), ("b", (0, 1, 2)), ("gate", "back")), ("a", (1, 2, 0)))

    def test_forth_each_asked_mark_stands_on_its_place(self):
        hall = turning(((0, 1),))
        for key in arrangements_of(3):
            told = ("b", (key[2], key[0], key[1])) if key[1] == 0 else "asked"
            self.assert_done(hall, ("a", key), ("gate", "forth"), told)

    def test_back_each_asked_mark_stands_where_the_cut_brings_its_place(self):
        hall = turning(((0, 1),))
        for key in arrangements_of(3):
            told = ("a", (key[1], key[2], key[0])) if key[2] == 0 else "asked"
            self.assert_done(hall, ("b", key), ("gate", "back"), told)

    def test_two_asks(self):
        hall = turning(((0, 1), (2, 0)))
        for key in arrangements_of(3):
            told = ("b", (1, 2, 0)) if key == (2, 0, 1) else "asked"
            self.assert_done(hall, ("a", key), ("gate", "forth"), told)
            told = ("a", (2, 0, 1)) if key == (1, 2, 0) else "asked"
            self.assert_done(hall, ("b", key), ("gate", "back"), told)

    def test_two_asks_of_one_place_never_open(self):
        hall = turning(((0, 1), (2, 1)))
        for key in arrangements_of(3):
            self.assert_done(hall, ("a", key), ("gate", "forth"), "asked")
            self.assert_done(hall, ("b", key), ("gate", "back"), "asked")
            self.assertEqual(steps(hall, ("a", key)) + steps(hall, ("b", key)), [])

    def test_a_door_from_a_room_to_itself(self):
        hall = Hall(3, [0], ["a"], [("gate", "a", "a", TURN, ((0, 1),))])
        self.assert_done(hall, ("a", (1, 0, 2)), ("gate", "forth"), ("a", (2, 1, 0)))
        self.assert_done(hall, ("a", (1, 0, 2)), ("gate", "back"), "asked")
        self.assert_done(hall, ("a", (2, 1, 0)), ("gate", "back"), ("a", (1, 0, 2)))
        self.assert_done(hall, ("a", (2, 1, 0)), ("gate", "forth"), "asked")

    def test_the_cut_that_moves_nothing(self):
        hall = Hall(2, [], ["a"], [("gate", "a", "a", (0, 1), ())])
        self.assert_done(hall, ("a", (1, 0)), ("gate", "forth"), ("a", (1, 0)))
        self.assert_done(hall, ("a", (1, 0)), ("gate", "back"), ("a", (1, 0)))

    def test_forth_and_back_comes_to_the_stand_again(self):
        hall = small_hall()
        other = {"forth": "back", "back": "forth"}
        for key in arrangements_of(5):
            for room in hall.rooms():
                for door, side in steps(hall, (room, key)):
                    behind = done(hall, (room, key), (door, side))
                    self.assertTrue(is_stand(hall, behind))
                    assert_same(self, done(hall, behind, (door, other[side])), (room, key))

    def test_the_stand_is_left_as_it_is(self):
        hall, stand = small_hall(), ("cave", HOME)
        done(hall, stand, ("arch", "forth"))
        steps(hall, stand)
        self.assertEqual((hall, stand), (small_hall(), ("cave", HOME)))

    def assert_done(self, hall, stand, step, told):
        """Done is the told stand, or refused for the told reason."""
        if isinstance(told, str):
            with self.assertRaises(NoStep) as caught:
                done(hall, stand, step)
            assert_same(self, caught.exception.why, told)
        else:
            assert_same(self, done(hall, stand, step), told)


class StepsTest(unittest.TestCase):
    def test_rising(self):
        hall = small_hall()
        assert_same(self, steps(hall, ("cave", HOME)), [("arch", "back"), ("arch", "forth")])
        key = (2, 0, 1, 3, 4)
        assert_same(self, steps(hall, ("cave", key)), [("arch", "back"), ("arch", "forth"), ("gate", "forth")])
        assert_same(self, steps(hall, ("yard", HOME)), [("lift", "forth")])
        assert_same(self, steps(hall, ("yard", (0, 2, 1, 3, 4))), [("gate", "back")])
        assert_same(self, steps(hall, ("yard", (0, 1, 3, 2, 4))), [])

    def test_no_doors(self):
        assert_same(self, steps(Hall(2, [], ["a"], []), ("a", (0, 1))), [])

    def test_are_just_those_that_can_be_done(self):
        hall = great_hall()
        key = (10, 1, 2, 11, 4, 5, 6, 7, 8, 9, 0, 3)
        for room in hall.rooms():
            told = steps(hall, (room, key))
            self.assertEqual(told, sorted(told))
            for step in [(door, side) for door in hall.doors() for side in ("forth", "back")]:
                self.assertEqual(step in told, self.can_be_done(hall, (room, key), step))

    def can_be_done(self, hall, stand, step):
        try:
            done(hall, stand, step)
        except NoStep:
            return False
        return True

    def test_hang_on_the_split_room_alone(self):
        hall, told = small_hall(), {}
        for key in arrangements_of(5):
            for room in hall.rooms():
                spot = split(hall, (room, key))
                self.assertEqual(told.setdefault(spot, steps(hall, (room, key))), steps(hall, (room, key)))

    def test_steps_move_as_their_cuts(self):
        hall = small_hall()
        for key in arrangements_of(5):
            for door, side in steps(hall, ("cave", key)):
                behind, cut = done(hall, ("cave", key), (door, side)), hall.door(door)[2]
                moved = brings(key, behind[1]) if side == "forth" else brings(behind[1], key)
                self.assertEqual(moved, cut)

    def test_told_lists_are_the_askers_own(self):
        hall = small_hall()
        steps(hall, ("cave", HOME)).clear()
        self.assertEqual(steps(hall, ("cave", HOME)), [("arch", "back"), ("arch", "forth")])


class NoStepTest(unittest.TestCase):
    def assert_refused(self, stand, step, why):
        with self.subTest(step):
            with self.assertRaises(NoStep) as caught:
                done(small_hall(), stand, step)
            assert_same(self, caught.exception.why, why)

    def test_form(self):
        for step in ODD + [
            ["gate", "forth"], ("gate",), ("gate", "forth", "back"), ("gate", "Forth"), ("gate", "forth "),
            ("gate", ""),
            ("gate", None), ("gate", True), ("gate", ["forth"]), ("gate", ("forth",)), ("gate", {}), ("gate", "asked"),
            ("Gate", "forth"), ("", "forth"), ("gate ", "forth"), ("gategates", "forth"), ("gate1", "forth"),
            ("ga te", "forth"), (None, "forth"), (0, "forth"), (["gate"], "forth"), ({}, "forth"), ((), "forth"),
            ("forth", "gate"), "gate forth", "forth", {"gate": "forth"}, ("gate\n", "forth"),
        ]:
            self.assert_refused(("cave", HOME), step, "form")

    def test_door(self):
        for name in ["nosuch", "cave", "yard", "g", "gates", "forth", "aaaaaaaa"]:
            for side in ("forth", "back"):
                self.assert_refused(("cave", HOME), (name, side), "door")

    def test_room(self):
        self.assert_refused(("cave", HOME), ("gate", "back"), "room")
        self.assert_refused(("cave", HOME), ("lift", "forth"), "room")
        self.assert_refused(("yard", HOME), ("arch", "forth"), "room")
        self.assert_refused(("yard", HOME), ("arch", "back"), "room")
        self.assert_refused(("yard", HOME), ("gate", "forth"), "room")

    def test_asked(self):
        self.assert_refused(("cave", HOME), ("gate", "forth"), "asked")
        self.assert_refused(("yard", HOME), ("gate", "back"), "asked")
        self.assert_refused(("yard", (0, 1, 2, 4, 3)), ("lift", "forth"), "asked")
        self.assert_refused(("cave", HOME), ("lift", "back"), "asked")

    def test_of_several_the_first_is_told(self):
        self.assert_refused(("cave", HOME), ("Nosuch", "forth"), "form")
        self.assert_refused(("cave", HOME), ("nosuch", "off"), "form")
        # Neither the room nor the asked mark is right here.
        self.assert_refused(("yard", HOME), ("gate", "forth"), "room")
        self.assert_refused(("yard", (0, 1, 3, 4, 2)), ("lift", "back"), "room")

    def test_changes_nothing(self):
        hall = small_hall()
        with self.assertRaises(NoStep):
            done(hall, ("cave", HOME), ("gate", "forth"))
        self.assertEqual(show_hall(hall), show_hall(small_hall()))


class PlainKindsTest(unittest.TestCase):
    def test_told_are_just_the_told_kinds(self):
        stand = Row([Text("cave"), Row([Number(mark) for mark in HOME])])
        step = Row([Text("arch"), Text("forth")])
        assert_same(self, done(small_hall(), stand, step), ("cave", (4, 0, 1, 2, 3)))
        assert_same(self, steps(small_hall(), stand), [("arch", "back"), ("arch", "forth")])

    def test_arguments_by_their_names(self):
        hall, stand = small_hall(), ("cave", HOME)
        self.assertEqual(steps(stand=stand, hall=hall), [("arch", "back"), ("arch", "forth")])
        self.assertEqual(done(step=("arch", "forth"), stand=stand, hall=hall), ("cave", (4, 0, 1, 2, 3)))


if __name__ == "__main__":
    unittest.main()
