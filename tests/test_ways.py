"""Points 2 and 16: ways."""

import unittest

from recutkeys.arrangements import behind, undone
from recutkeys.errors import NoText, NoWay
from recutkeys.stands import brings
from recutkeys.steps import done, steps
from recutkeys.ways import made, played, read_way, show_way, way_back
from tests.samples import ODD, Number, Row, Text, assert_same, small_hall

HOME = (0, 1, 2, 3, 4)
START = ("cave", (0, 1, 4, 3, 2))
# The arch turns all places by one; mark 2, from place 4, then stands on place 0, as the gate asks.
WAY = (("arch", "forth"), ("gate", "forth"))
THROUGH = [START, ("cave", (2, 0, 1, 4, 3)), ("yard", (0, 2, 1, 4, 3))]


def long_way(hall, stand, many):
    """A way of so many steps, as various as can be told without chance."""
    way = []
    for number in range(many):
        doable = steps(hall, stand)
        way.append(doable[number * number % len(doable)])
        stand = done(hall, stand, way[-1])
    return way


class PlayedTest(unittest.TestCase):
    def test_the_stands_that_it_goes_through(self):
        assert_same(self, played(small_hall(), START, WAY), THROUGH)
        assert_same(self, played(small_hall(), START, list(WAY)), THROUGH)

    def test_the_empty_way(self):
        for way in ((), []):
            assert_same(self, played(small_hall(), START, way), [START])
            assert_same(self, made(small_hall(), START, way), HOME)

    def test_what_it_made(self):
        turned = (1, 2, 3, 4, 0)
        assert_same(self, made(small_hall(), START, WAY[:1]), turned)
        assert_same(self, made(small_hall(), START, list(WAY)), behind(turned, (1, 0, 2, 3, 4)))
        assert_same(self, made(small_hall(), START, [("arch", "back")]), undone(turned))

    def test_what_a_long_way_made(self):
        hall = small_hall()
        way = long_way(hall, START, 200)
        whole = HOME
        for door, side in way:
            cut = hall.door(door)[2]
            whole = behind(whole, cut if side == "forth" else undone(cut))
        assert_same(self, made(hall, START, way), whole)
        stands = played(hall, START, way)
        self.assertEqual(len(stands), 201)
        self.assertEqual(brings(START[1], stands[-1][1]), whole)
        for at, step in enumerate(way):
            assert_same(self, done(hall, stands[at], step), stands[at + 1])

    def test_told_lists_are_the_askers_own(self):
        hall, way = small_hall(), list(WAY)
        played(hall, START, way).clear()
        self.assertEqual(played(hall, START, way), THROUGH)
        self.assertEqual(way, list(WAY))


class NoWayTest(unittest.TestCase):
    def assert_refused(self, way, at, why):
        for go in (played, made):
            for kind in (list, tuple):
                with self.assertRaises(NoWay) as caught:
                    go(small_hall(), START, kind(way))
                assert_same(self, [caught.exception.at, caught.exception.why], [at, why])

    def test_each_reason(self):
        self.assert_refused([*WAY, ("gate", "sideways")], 2, "form")
        self.assert_refused([*WAY, ("nosuch", "forth")], 2, "door")
        self.assert_refused([*WAY, ("gate", "forth")], 2, "room")
        self.assert_refused([*WAY, ("lift", "forth")], 2, "asked")

    def test_at_the_first_step_that_can_not_be_done(self):
        self.assert_refused([("gate", "forth"), ("nosuch", "forth"), None], 0, "asked")
        self.assert_refused([("gate", "back"), *WAY], 0, "room")
        self.assert_refused([("arch", "forth")] * 5 + [("lift", "forth"), None], 5, "room")
        self.assert_refused([("arch", "back"), ("gate", "forth")], 1, "asked")

    def test_steps_of_anything(self):
        for thing in ODD + [["gate", "forth"], "gate forth"]:
            self.assert_refused([thing], 0, "form")
            self.assert_refused([*WAY, thing, thing], 2, "form")


class WayBackTest(unittest.TestCase):
    def test_from_the_last_step_each_from_its_other_side(self):
        assert_same(self, way_back(WAY), (("gate", "back"), ("arch", "back")))
        assert_same(self, way_back(list(WAY)), (("gate", "back"), ("arch", "back")))
        way = [("a", "back"), ("b", "forth"), ("c", "back")]
        assert_same(self, way_back(way), (("c", "forth"), ("b", "back"), ("a", "forth")))
        self.assertEqual(way, [("a", "back"), ("b", "forth"), ("c", "back")])

    def test_the_empty_way(self):
        assert_same(self, way_back(()), ())
        assert_same(self, way_back([]), ())

    def test_leads_back(self):
        hall = small_hall()
        way = long_way(hall, START, 60)
        stands = played(hall, START, way)
        assert_same(self, played(hall, stands[-1], way_back(way)), stands[::-1])
        assert_same(self, made(hall, stands[-1], way_back(way)), undone(made(hall, START, way)))
        assert_same(self, way_back(way_back(way)), tuple(way))


class TextTest(unittest.TestCase):
    def assert_refused(self, text, row):
        with self.subTest(text):
            with self.assertRaises(NoText) as caught:
                read_way(text)
            assert_same(self, caught.exception.row, row)

    def test_shown(self):
        assert_same(self, show_way(WAY), "arch forth, gate forth")
        assert_same(self, show_way([("gate", "forth"), ("gate", "back")]), "gate forth, gate back")
        assert_same(self, show_way([("gate", "back")]), "gate back")
        assert_same(self, show_way(()), "")
        assert_same(self, show_way([]), "")

    def test_read(self):
        assert_same(self, read_way("gate forth, gate back"), (("gate", "forth"), ("gate", "back")))
        assert_same(self, read_way("gate back"), (("gate", "back"),))
        assert_same(self, read_way(""), ())

    def test_doors_may_have_any_names(self):
        text = "forth forth, back back, a forth, abcdefgh back, forth back"
        assert_same(self, show_way(read_way(text)), text)

    def test_text_and_back(self):
        way = tuple(long_way(small_hall(), START, 60))
        assert_same(self, read_way(show_way(way)), way)

    def test_parts_that_write_no_step(self):
        for part in [
            "gate", "forth", "", " ", "gate  forth", " gate forth", "gate forth ", "gate forth back", "Gate forth",
            "gate Forth", "gate sideways", "gategates forth", "gate1 forth", "gate,forth", "gate forth,gate back",
            "gate\nforth",
            "gate forth\n", "gate forth,", ",gate forth", "gate ", " forth", "('gate', 'forth')", "()", "forth gate",
            "-", "gate asked",
        ]:
            for row in range(4):
                parts = ["arch back", "lift forth", "arch forth"]
                parts.insert(row, part)
                # Alone the part without signs would be the empty way, but it stands among others here.
                self.assert_refused(", ".join(parts), row)

    def test_one_part_alone(self):
        for text in [" ", ",", ", ", "\n", "gate", "gate forth,", "gate  forth", " gate forth", "gate forth ", "forth"]:
            self.assert_refused(text, 0)

    def test_the_first_wrong_part_is_told(self):
        self.assert_refused("gate forth, gate, gate forth, gate", 1)
        self.assert_refused("gate forth, ", 1)
        self.assert_refused("gate forth, , gate forth", 1)
        self.assert_refused("gate forth,  gate back", 1)
        self.assert_refused("gate forth , gate back", 0)

    def test_what_is_no_text(self):
        for thing in ODD + [WAY, list(WAY), [], ()]:
            if not isinstance(thing, str):
                self.assert_refused(thing, 0)


class PlainKindsTest(unittest.TestCase):
    def test_told_are_just_the_told_kinds(self):
        stand = Row([Text("cave"), Row([Number(mark) for mark in START[1]])])
        way = Row([Row([Text(door), Text(side)]) for door, side in WAY])
        assert_same(self, played(small_hall(), stand, way), THROUGH)
        assert_same(self, made(small_hall(), stand, way), made(small_hall(), START, WAY))
        assert_same(self, way_back(way), (("gate", "back"), ("arch", "back")))
        assert_same(self, show_way(way), "arch forth, gate forth")
        assert_same(self, read_way(Text("arch forth, gate forth")), WAY)
        assert_same(self, read_way(Text("")), ())

    def test_arguments_by_their_names(self):
        hall = small_hall()
        self.assertEqual(played(way=WAY, stand=START, hall=hall), THROUGH)
        self.assertEqual(made(way=(), stand=START, hall=hall), HOME)
        self.assertEqual(way_back(way=WAY), (("gate", "back"), ("arch", "back")))
        self.assertEqual(show_way(way=WAY), "arch forth, gate forth")
        self.assertEqual(read_way(text="arch forth, gate forth"), WAY)


if __name__ == "__main__":
    unittest.main()
