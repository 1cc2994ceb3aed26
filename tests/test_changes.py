"""Points 2, 4, 34 and 35: changed halls, halls joined."""

import copy
import unittest
from itertools import permutations

from recutkeys.arrangements import behind, undone
from recutkeys.changes import (
    joined, marks_turned, marks_turned_stand, places_turned, places_turned_stand, reasked, recut, renamed,
    renamed_stand, unasked, walled,
)
from recutkeys.counts import home_many, many_at, many_stands
from recutkeys.errors import NoName
from recutkeys.halls import Hall
from recutkeys.halltexts import show_hall
from recutkeys.stands import split
from recutkeys.steps import done, steps
from tests.samples import (
    ODD, Number, Row, Text, arrangements_of, assert_same, gone_through, great_hall, halls_and_stands,
    halls_of_twelve, letters, small_hall,
)

START = ("cave", (0, 1, 4, 3, 2))


def told_of(hall):
    """All that is told of a hall."""
    doors = [(name, *hall.door(name)) for name in hall.doors()]
    return (hall.places(), hall.watched(), hall.rooms(), doors)


def some_turns(places):
    """Some arrangements, one that moves nothing among them."""
    every = arrangements_of(places)
    return every[:3] + every[3::max(1, len(every) // 9)]


def names_exchanged(hall):
    """All names exchanged among one another, the first for the last."""
    every = hall.rooms() + hall.doors()
    return dict(zip(every, every[::-1]))


def some_names(hall):
    """Dicts of names: none, exchanged, all fresh, fresh in another order, some, some to themselves."""
    every = hall.rooms() + hall.doors()
    yield {}
    yield names_exchanged(hall)
    yield {name: letters(number, "z") for number, name in enumerate(every)}
    yield {name: letters(99 - number, "z") for number, name in enumerate(every)}
    yield {every[0]: "fresh"}
    yield {name: name for name in every}
    yield {every[0]: every[-1], every[-1]: every[0], **{name: name for name in every[1:-1]}}
    # Round: the first gets the second's, and so on, rooms and doors among one another.
    yield dict(zip(every, every[1:] + every[:1]))


class ChangeCase(unittest.TestCase):
    def assert_hall(self, hall, places, watched, rooms, doors):
        """A new Hall with just this, kept in the one order."""
        self.assertIs(type(hall), Hall)
        rising = sorted((name, one, other, tuple(cut), tuple(sorted(asks))) for name, one, other, cut, asks in doors)
        assert_same(self, told_of(hall), (places, tuple(sorted(watched)), sorted(rooms), rising))
        self.assertEqual(hall, Hall(places, watched, rooms, doors))
        self.assertEqual(show_hall(hall), show_hall(Hall(places, watched, rooms, doors)))

    def assert_with_door(self, changed, hall, *door):
        """The hall's like, but for the one door of the name, if any is told."""
        places, watched, rooms, doors = told_of(hall)
        self.assert_hall(changed, places, watched, rooms, [kept for kept in doors if kept[0] != door[0]] + (
            [door] if len(door) > 1 else []))

    def assert_no_name(self, call, hall, *more):
        """Rooms' names and anything else that no door has is refused with the very thing."""
        kept = told_of(hall)
        for thing in [*hall.rooms(), "Gate", "gate ", ("gate",), ["gate"], {"gate": 0}, *hall.watched(), *ODD]:
            with self.assertRaises(NoName) as caught:
                call(hall, thing, *more)
            self.assertIs(caught.exception.asked, thing)
        self.assertEqual(told_of(hall), kept)

    def assert_steps_alike(self, hall, changed, turn_stand, turn_step):
        """What can be done in the changed hall is what could be done, so changed, and leads to the like."""
        for near in every_stand(hall):
            turned = turn_stand(near)
            self.assertEqual(steps(changed, turned), sorted(turn_step(step) for step in steps(hall, near)))
            for step in steps(hall, near):
                self.assertEqual(done(changed, turned, turn_step(step)), turn_stand(done(hall, near, step)))


def every_stand(hall):
    """All stands of a hall, of great ones some."""
    keys = arrangements_of(hall.places())
    return [(room, key) for room in hall.rooms() for key in keys[::max(1, len(keys) // 40)]]


class DoorTest(ChangeCase):
    def test_walled(self):
        for hall, _ in halls_and_stands() + halls_of_twelve():
            kept = told_of(hall)
            for door in hall.doors():
                changed = walled(hall, door)
                self.assert_with_door(changed, hall, door)
                self.assertNotIn(door, changed.doors())
                with self.assertRaises(NoName):
                    walled(changed, door)
            self.assertEqual(told_of(hall), kept)
        self.assert_no_name(walled, small_hall())

    def test_all_walled(self):
        hall = small_hall()
        for door in ("gate", "lift", "arch"):
            hall = walled(hall, door)
        self.assert_hall(hall, 5, (2, 4), ["cave", "yard"], [])
        self.assert_no_name(walled, hall)

    def test_unasked(self):
        for hall, _ in halls_and_stands() + halls_of_twelve():
            kept = told_of(hall)
            for door in hall.doors():
                one, other, cut, _ = hall.door(door)
                changed = unasked(hall, door)
                self.assert_with_door(changed, hall, door, one, other, cut, ())
                self.assertIsNot(changed, hall)
                # What asks nothing may be unasked again.
                self.assert_with_door(unasked(changed, door), hall, door, one, other, cut, ())
            self.assertEqual(told_of(hall), kept)
        self.assert_no_name(unasked, small_hall())

    def test_recut(self):
        for hall, _ in halls_and_stands():
            kept = told_of(hall)
            for door in hall.doors():
                one, other, cut, asks = hall.door(door)
                for turn in [cut, undone(cut), *some_turns(hall.places())]:
                    self.assert_with_door(recut(hall, door, turn), hall, door, one, other, turn, asks)
            self.assertEqual(told_of(hall), kept)
        self.assert_no_name(recut, small_hall(), (1, 0, 2, 3, 4))

    def test_reasked(self):
        hall = small_hall()
        kept = told_of(hall)
        for door in hall.doors():
            one, other, cut, asks = hall.door(door)
            for rising in [(), ((2, 0),), ((4, 3),), ((2, 1), (4, 1)), ((2, 4), (4, 0)), asks]:
                for told in (rising, rising[::-1], list(rising), list(rising[::-1])):
                    told_kept = copy.deepcopy(told)
                    self.assert_with_door(reasked(hall, door, told), hall, door, one, other, cut, rising)
                    assert_same(self, told, told_kept)
        self.assertEqual(told_of(hall), kept)
        self.assert_no_name(reasked, hall, [(2, 0)])

    def test_what_is_handed_in_is_changed_behind(self):
        asks = [(4, 0), (2, 1)]
        changed = reasked(small_hall(), "arch", asks)
        asks.clear()
        self.assertEqual(changed.door("arch")[3], ((2, 1), (4, 0)))

    def test_changed_one_behind_another(self):
        hall = reasked(recut(unasked(small_hall(), "gate"), "gate", (4, 3, 2, 1, 0)), "gate", [(4, 4)])
        self.assert_with_door(hall, small_hall(), "gate", "cave", "yard", (4, 3, 2, 1, 0), ((4, 4),))
        self.assertEqual(reasked(recut(hall, "gate", (1, 0, 2, 3, 4)), "gate", ((2, 0),)), small_hall())

    def test_what_is_let(self):
        # Less is come to where a door is walled, more where its asks are taken away.
        for hall, stand in halls_and_stands():
            inside = set(gone_through(hall, stand))
            for door in hall.doors():
                less, more = walled(hall, door), unasked(hall, door)
                self.assertLessEqual(set(gone_through(less, stand)), inside)
                self.assertGreaterEqual(set(gone_through(more, stand)), inside)
                self.assertEqual(home_many(hall, stand) % home_many(less, stand), 0)
                self.assertEqual(home_many(more, stand) % home_many(hall, stand), 0)


class RenamedTest(ChangeCase):
    def test_names_of_rooms_and_doors(self):
        for hall, _ in halls_and_stands() + [(great_hall(), None)]:
            kept = told_of(hall)
            for names in some_names(hall):
                names_kept = dict(names)
                anew = {name: names.get(name, name) for name in hall.rooms() + hall.doors()}
                doors = [(anew[name], anew[one], anew[other], cut, asks) for name, one, other, cut, asks in kept[3]]
                self.assert_hall(renamed(hall, names), *kept[:2], [anew[room] for room in kept[2]], doors)
                self.assertEqual(names, names_kept)
            self.assertEqual(told_of(hall), kept)

    def test_stands(self):
        assert_same(self, renamed_stand({"cave": "yard", "yard": "cave", "gate": "x"}, START), ("yard", START[1]))
        assert_same(self, renamed_stand({"yard": "x", "gate": "y"}, START), START)
        assert_same(self, renamed_stand({}, START), START)
        assert_same(self, renamed_stand({"cave": "gate", "gate": "cave"}, START), ("gate", START[1]))

    def test_what_can_be_done(self):
        for hall, _ in halls_and_stands():
            for names in some_names(hall):
                self.assert_steps_alike(
                    hall, renamed(hall, names), lambda near: renamed_stand(names, near),
                    lambda step: (names.get(step[0], step[0]), step[1]),
                )

    def test_back_again(self):
        for hall, stand in halls_and_stands():
            for names in some_names(hall):
                back = {name: elder for elder, name in names.items()}
                self.assertEqual(renamed(renamed(hall, names), back), hall)
                assert_same(self, renamed_stand(back, renamed_stand(names, stand)), stand)


class MarksTurnedTest(ChangeCase):
    def test_watched_marks_and_asks(self):
        for hall, _ in halls_and_stands():
            kept = told_of(hall)
            for marks in some_turns(hall.places()):
                doors = [(*door[:4], [(marks[mark], place) for mark, place in door[4]]) for door in kept[3]]
                changed = marks_turned(hall, marks)
                self.assert_hall(changed, kept[0], [marks[mark] for mark in kept[1]], kept[2], doors)
            self.assertEqual(told_of(hall), kept)

    def test_a_hall_by_hand(self):
        hall = marks_turned(small_hall(), (4, 3, 1, 2, 0))
        self.assert_hall(hall, 5, (0, 1), ["cave", "yard"], [
            ("arch", "cave", "cave", (1, 2, 3, 4, 0), ()), ("gate", "cave", "yard", (1, 0, 2, 3, 4), ((1, 0),)),
            ("lift", "yard", "cave", (0, 1, 3, 2, 4), ((0, 4), (1, 2))),
        ])
        assert_same(self, marks_turned_stand((4, 3, 1, 2, 0), START), ("cave", (4, 3, 0, 2, 1)))

    def test_what_can_be_done(self):
        for hall, _ in halls_and_stands():
            for marks in some_turns(hall.places()):
                self.assert_steps_alike(
                    hall, marks_turned(hall, marks), lambda near: marks_turned_stand(marks, near), lambda step: step,
                )

    def test_back_again(self):
        for hall, stand in halls_and_stands():
            for marks in some_turns(hall.places()):
                self.assertEqual(marks_turned(marks_turned(hall, marks), undone(marks)), hall)
                assert_same(self, marks_turned_stand(undone(marks), marks_turned_stand(marks, stand)), stand)


class PlacesTurnedTest(ChangeCase):
    def test_cuts_and_asks(self):
        for hall, _ in halls_and_stands():
            kept = told_of(hall)
            for places in some_turns(hall.places()):
                doors = [
                    (name, one, other, behind(behind(undone(places), cut), places),
                     [(mark, places[place]) for mark, place in asks])
                    for name, one, other, cut, asks in kept[3]
                ]
                self.assert_hall(places_turned(hall, places), *kept[:3], doors)
            self.assertEqual(told_of(hall), kept)

    def test_a_hall_by_hand(self):
        # What stood on 0 stands on 2, on 1: on 0, on 2: on 1.
        hall = Hall(3, (0, 1), ["a"], [("c", "a", "a", (1, 0, 2), ((0, 0), (1, 2)))])
        self.assert_hall(places_turned(hall, (2, 0, 1)), 3, (0, 1), ["a"], [
            ("c", "a", "a", (2, 1, 0), ((0, 2), (1, 1))),
        ])
        assert_same(self, places_turned_stand((2, 0, 1), ("a", (0, 1, 2))), ("a", (1, 2, 0)))

    def test_what_can_be_done(self):
        for hall, _ in halls_and_stands():
            for places in some_turns(hall.places()):
                self.assert_steps_alike(
                    hall, places_turned(hall, places), lambda near: places_turned_stand(places, near),
                    lambda step: step,
                )

    def test_back_again(self):
        for hall, stand in halls_and_stands():
            for places in some_turns(hall.places()):
                self.assertEqual(places_turned(places_turned(hall, places), undone(places)), hall)
                assert_same(self, places_turned_stand(undone(places), places_turned_stand(places, stand)), stand)


class CarriedOverTest(ChangeCase):
    def assert_carried(self, hall, stand, changed, turn_stand):
        """What is come to in the changed hall is what was come to, carried over."""
        inside = {turn_stand(other): number for other, number in gone_through(hall, stand).items()}
        self.assertEqual(gone_through(changed, turn_stand(stand)), inside)
        self.assertEqual(many_stands(changed, turn_stand(stand)), len(inside))
        self.assertEqual(home_many(changed, turn_stand(stand)), home_many(hall, stand))
        for room in hall.rooms():
            self.assertEqual(many_at(changed, turn_stand(stand), turn_stand((room, stand[1]))[0]),
                             many_at(hall, stand, room))

    def test_what_is_come_to(self):
        for hall, stand in halls_and_stands():
            for names in some_names(hall):
                self.assert_carried(hall, stand, renamed(hall, names), lambda near: renamed_stand(names, near))
            for turn in some_turns(hall.places()):
                marks, places = marks_turned(hall, turn), places_turned(hall, turn)
                self.assert_carried(hall, stand, marks, lambda near: marks_turned_stand(turn, near))
                self.assert_carried(hall, stand, places, lambda near: places_turned_stand(turn, near))

    def test_of_twelve_places(self):
        for hall, stand in halls_of_twelve():
            turn = (5, 7, 9, 11, 1, 3, 0, 2, 4, 6, 8, 10)
            for changed, carried in [
                (marks_turned(hall, turn), marks_turned_stand(turn, stand)),
                (places_turned(hall, turn), places_turned_stand(turn, stand)),
                (renamed(hall, names_exchanged(hall)), renamed_stand(names_exchanged(hall), stand)),
            ]:
                self.assertEqual(many_stands(changed, carried), many_stands(hall, stand))


class JoinedTest(ChangeCase):
    def setUp(self):
        self.one = small_hall()
        self.other = Hall(5, (4, 2), ["vault", "attic"], [
            ("hatch", "vault", "attic", (4, 1, 2, 3, 0), [(4, 1), (2, 2)]),
            ("alley", "attic", "attic", (2, 0, 1, 3, 4), []),
        ])

    def test_rooms_and_doors_of_both(self):
        kept = told_of(self.one), told_of(self.other)
        for door in [
            ("bridge", "yard", "attic", (0, 1, 2, 4, 3), [(4, 0), (2, 3)]), ("a", "cave", "vault", (0, 1, 2, 3, 4), ()),
            ("zzzzzzzz", "yard", "vault", [4, 3, 2, 1, 0], ((2, 2),)),
        ]:
            hall = joined(self.one, self.other, door)
            self.assert_hall(hall, 5, (2, 4), self.one.rooms() + self.other.rooms(), kept[0][3] + kept[1][3] + [door])
        self.assertEqual((told_of(self.one), told_of(self.other)), kept)

    def test_the_doors_rooms_are_not_exchanged(self):
        hall = joined(self.one, self.other, ("bridge", "yard", "attic", (1, 2, 0, 3, 4), ()))
        assert_same(self, hall.door("bridge"), ("yard", "attic", (1, 2, 0, 3, 4), ()))
        back = joined(self.other, self.one, ("bridge", "attic", "yard", (1, 2, 0, 3, 4), ()))
        assert_same(self, back.door("bridge"), ("attic", "yard", (1, 2, 0, 3, 4), ()))

    def test_what_could_be_come_to_still_can(self):
        hall = joined(self.one, self.other, ("bridge", "yard", "attic", (0, 1, 2, 4, 3), [(2, 3)]))
        yard, vault = ("yard", (4, 2, 0, 1, 3)), ("vault", START[1])
        for apart, stand in [(self.one, START), (self.one, yard), (self.other, vault)]:
            self.assertLessEqual(set(gone_through(apart, stand)), set(gone_through(hall, stand)))

    def test_just_by_the_new_door(self):
        # Where the new door never opens, all is as it was.
        hall = joined(self.one, self.other, ("bridge", "yard", "attic", (0, 1, 2, 4, 3), [(2, 3), (4, 3)]))
        self.assertEqual(gone_through(hall, START), gone_through(self.one, START))
        hall = joined(self.one, self.other, ("bridge", "cave", "attic", (0, 1, 2, 4, 3), []))
        inside = gone_through(hall, START)
        self.assertIn(("attic", (0, 1, 4, 2, 3)), inside)
        self.assertEqual(done(hall, START, ("bridge", "forth")), ("attic", (0, 1, 4, 2, 3)))
        self.assertEqual(split(hall, START), split(self.one, START))


class PlainKindsTest(ChangeCase):
    def test_told_are_just_the_told_kinds(self):
        turn = Row([Number(place) for place in (4, 0, 1, 3, 2)])
        stand = Row([Text("cave"), Row([Number(mark) for mark in START[1]])])
        asks = Row([Row([Number(4), Number(1)])])
        names = {Text("cave"): Text("zoo"), Text("gate"): Text("arc")}
        door = Row([Text("ways"), Text("cave"), Text("attic"), turn, asks])
        hall, attic = small_hall(), Hall(5, (2, 4), ["attic"], [])
        for dressed, plain in [
            (walled(hall, Text("gate")), walled(hall, "gate")), (unasked(hall, Text("gate")), unasked(hall, "gate")),
            (recut(hall, Text("gate"), turn), recut(hall, "gate", (4, 0, 1, 3, 2))),
            (reasked(hall, Text("gate"), asks), reasked(hall, "gate", [(4, 1)])),
            (renamed(hall, names), renamed(hall, {"cave": "zoo", "gate": "arc"})),
            (marks_turned(hall, turn), marks_turned(hall, (4, 0, 1, 3, 2))),
            (places_turned(hall, turn), places_turned(hall, (4, 0, 1, 3, 2))),
            (joined(hall, attic, door), joined(hall, attic, ("ways", "cave", "attic", (4, 0, 1, 3, 2), [(4, 1)]))),
        ]:
            assert_same(self, told_of(dressed), told_of(plain))
        assert_same(self, renamed_stand(names, stand), ("zoo", START[1]))
        assert_same(self, renamed_stand({}, stand), START)
        assert_same(self, marks_turned_stand(turn, stand), marks_turned_stand((4, 0, 1, 3, 2), START))
        assert_same(self, places_turned_stand(turn, stand), places_turned_stand((4, 0, 1, 3, 2), START))

    def test_arguments_by_their_names(self):
        hall, turn = small_hall(), (4, 0, 1, 3, 2)
        attic, door = Hall(5, (2, 4), ["attic"], []), ("ways", "cave", "attic", turn, ())
        for named, placed in [
            (walled(door="gate", hall=hall), walled(hall, "gate")),
            (unasked(door="gate", hall=hall), unasked(hall, "gate")),
            (recut(cut=turn, door="gate", hall=hall), recut(hall, "gate", turn)),
            (reasked(asks=[(4, 1)], door="gate", hall=hall), reasked(hall, "gate", [(4, 1)])),
            (renamed(names={"cave": "zoo"}, hall=hall), renamed(hall, {"cave": "zoo"})),
            (marks_turned(marks=turn, hall=hall), marks_turned(hall, turn)),
            (places_turned(places=turn, hall=hall), places_turned(hall, turn)),
            (renamed_stand(stand=START, names={"cave": "zoo"}), renamed_stand({"cave": "zoo"}, START)),
            (marks_turned_stand(stand=START, marks=turn), marks_turned_stand(turn, START)),
            (places_turned_stand(stand=START, places=turn), places_turned_stand(turn, START)),
            (joined(door=door, other=attic, one=hall), joined(hall, attic, door)),
        ]:
            self.assertEqual(named, placed)

    def test_each_hall_is_a_new_one(self):
        hall, home = small_hall(), (0, 1, 2, 3, 4)
        for changed in [unasked(hall, "arch"), recut(hall, "gate", (1, 0, 2, 3, 4)), reasked(hall, "gate", [(2, 0)]),
                        renamed(hall, {}), marks_turned(hall, home), places_turned(hall, home)]:
            self.assertIsNot(changed, hall)
            self.assertEqual(changed, hall)

    def test_all_turns_of_three(self):
        # Marks and places turned one behind another are turned by the two behind one another.
        hall = Hall(3, (0, 2), ["a"], [("c", "a", "a", (1, 2, 0), ((0, 0), (2, 2))), ("d", "a", "a", (1, 0, 2), ())])
        for one in permutations(range(3)):
            for other in permutations(range(3)):
                both = behind(one, other)
                self.assertEqual(marks_turned(marks_turned(hall, one), other), marks_turned(hall, both))
                self.assertEqual(places_turned(places_turned(hall, one), other), places_turned(hall, both))
                # Which of marks and places are turned first is all one.
                turned = places_turned(marks_turned(hall, one), other)
                self.assertEqual(turned, marks_turned(places_turned(hall, other), one))


if __name__ == "__main__":
    unittest.main()
