"""Points 2, 4, 25 and 28: fences."""

import copy
import unittest
from time import process_time

from recutkeys.arrangements import behind, undone
from recutkeys.errors import NoWay
from recutkeys.fences import bars, fence, is_fence, walked
from recutkeys.halls import Hall
from recutkeys.parts import part
from recutkeys.stands import brings, is_split, split
from recutkeys.steps import done, steps
from recutkeys.tables import are_tables, many_in, sifts, tables_of
from recutkeys.ways import played
from tests.samples import (
    ODD, Number, Row, Text, assert_same, gone_through, halls_and_stands, halls_of_twelve, homes_of, small_hall,
    spots_of, stands_of,
)

START = ("cave", (0, 1, 4, 3, 2))


def stand_at(hall, spot):
    """A stand of a split room, of whichever key."""
    for key in [key for room, key in stands_of(hall) if room == spot[0]]:
        if split(hall, (spot[0], key)) == spot:
            return (spot[0], key)


def holds_by_the_words(hall, stand, paper):
    """Whether lists of such form are a fence that is let by, told by the document's words alone."""
    lot, tables = paper
    ones = dict(lot)
    home = tuple(range(hall.places()))
    if len(ones) < len(lot) or ones.get(split(hall, stand)) != home or not are_tables(hall.places(), tables):
        return False
    for spot, one in lot:
        near = stand_at(hall, spot)
        for step in steps(hall, near):
            far = done(hall, near, step)
            if split(hall, far) not in ones:
                return False
            moves = brings(near[1], far[1])
            if not sifts(tables, behind(behind(one, moves), undone(ones[split(hall, far)]))):
                return False
    return True


def widest(hall, stand):
    """The fence with all split rooms and all arrangements: it bars nothing."""
    places = hall.places()
    home = tuple(range(places))
    return ([(spot, home) for spot in spots_of(hall)], tables_of(home, [(1, 0, *home[2:]), (*home[1:], 0)]))


class FenceTest(unittest.TestCase):
    def test_is_let_by(self):
        for hall, stand in halls_and_stands():
            told = fence(hall, stand)
            assert_same(self, told, (list(told[0]), list(told[1])))
            self.assertIs(is_fence(hall, stand, told), True)
            self.assertTrue(holds_by_the_words(hall, stand, told))
            self.assertEqual(sorted(spot for spot, _ in told[0]), part(hall, stand))
            self.assertEqual(many_in(told[1]), len(homes_of(hall, stand)))

    def test_bars_just_what_no_way_comes_to(self):
        for hall, stand in halls_and_stands():
            told, inside = fence(hall, stand), gone_through(hall, stand)
            for other in stands_of(hall):
                self.assertIs(bars(hall, stand, told, other), other not in inside)

    def test_told_lists_are_the_askers_own(self):
        hall, stand = halls_and_stands()[6]
        told = fence(hall, stand)
        lot, tables = fence(hall, stand)
        lot.clear()
        tables[0][1].clear()
        self.assertEqual(fence(hall, stand), told)


class IsFenceTest(unittest.TestCase):
    def assert_fence(self, thing, right, hall=None, stand=START):
        with self.subTest(str(thing)[:200]):
            self.assertIs(is_fence(hall or small_hall(), stand, thing), right)

    def test_one_thing_otherwise(self):
        seen = []
        for hall, stand in halls_and_stands():
            lot, tables = fence(hall, stand)
            swap = (1, 0, *range(2, hall.places()))
            papers = [(lot[:at] + lot[at + 1:], tables) for at in range(len(lot))]
            for at, (spot, one) in enumerate(lot):
                for other in (behind(one, swap), behind(swap, one), undone(one), tuple(range(hall.places()))):
                    papers.append((lot[:at] + [(spot, other)] + lot[at + 1:], tables))
            for at, (place, rows) in enumerate(tables):
                papers.append((lot, tables[:at] + tables[at + 1:]))
                papers.append((lot, tables[:at] + [(place, rows + [swap])] + tables[at + 1:]))
                for number in range(len(rows)):
                    papers.append((lot, tables[:at] + [(place, rows[:number] + rows[number + 1:])] + tables[at + 1:]))
            for paper in papers:
                right = holds_by_the_words(hall, stand, paper)
                seen.append(right)
                self.assert_fence(paper, right, hall, stand)
        self.assertIn(True, seen)
        self.assertIn(False, seen)

    def test_of_this_stand(self):
        for hall, stand in halls_and_stands():
            told = fence(hall, stand)
            for room in hall.rooms():
                other = (room, stand[1])
                self.assert_fence(told, holds_by_the_words(hall, other, told), hall, other)
            for other in list(gone_through(hall, stand))[:30]:
                self.assert_fence(told, dict(told[0])[split(hall, other)] == tuple(range(hall.places())), hall, other)

    def test_more_than_is_needed(self):
        for hall, stand in halls_and_stands():
            lot, tables = fence(hall, stand)
            wide = widest(hall, stand)
            self.assert_fence(wide, True, hall, stand)
            home = tuple(range(hall.places()))
            self.assert_fence((lot, wide[1]), True, hall, stand)
            # All split rooms need all that leads there, so not all arrangements of the others fit.
            more = lot + [(spot, home) for spot in spots_of(hall) if spot not in dict(lot)]
            self.assert_fence((more, wide[1]), True, hall, stand)
            self.assert_fence((more, tables), holds_by_the_words(hall, stand, (more, tables)), hall, stand)
            for spot in spots_of(hall):
                if spot not in dict(lot):
                    paper = (lot + [(spot, home)], tables)
                    self.assert_fence(paper, holds_by_the_words(hall, stand, paper), hall, stand)

    def test_none_that_is_let_by_bars_what_a_way_comes_to(self):
        for hall, stand in halls_and_stands():
            lot, tables = fence(hall, stand)
            wide = widest(hall, stand)
            for paper in (wide, (lot, wide[1]), (lot[::-1], tables), (wide[0][::-1], wide[1])):
                self.assert_fence(paper, True, hall, stand)
                for other in gone_through(hall, stand):
                    self.assertIs(bars(hall, stand, paper, other), False)

    def test_the_stands_own_split_room(self):
        lot, tables = widest(small_hall(), START)
        self.assert_fence((lot, tables), True)
        turn = (1, 2, 3, 4, 0)
        turned = [(spot, turn) for spot, _ in lot]
        self.assert_fence((turned, tables), False)
        kept = split(small_hall(), START)
        self.assert_fence(([(spot, one if spot == kept else turn) for spot, one in lot], tables), True)
        self.assert_fence(([post for post in lot if post[0][0] == "yard"], tables), False)

    def test_split_rooms_unlike(self):
        lot, tables = fence(small_hall(), START)
        self.assert_fence((lot + lot[:1], tables), False)
        self.assert_fence(([lot[2], *lot], tables), False)

    def test_steps_that_lead_out(self):
        # The one door leads out of either split room, from the one forth, from the other back.
        hall = Hall(3, (), ("a", "b"), [("c", "a", "b", (0, 1, 2), ())])
        home, tables = (0, 1, 2), tables_of((0, 1, 2), [(1, 0, 2), (1, 2, 0)])
        for room in ("a", "b"):
            self.assert_fence(([((room, ()), home)], tables), False, hall, (room, home))
            self.assert_fence(([(("a", ()), home), (("b", ()), home)], tables), True, hall, (room, home))

    def test_its_form(self):
        lot, tables = fence(small_hall(), START)
        home, spot = (0, 1, 2, 3, 4), ("cave", (4, 2))
        self.assert_fence((lot, tables), True)
        self.assertIn((spot, home), lot)
        near = [
            [lot, tables], (lot,), (lot, tables, tables), (tables, lot), (tuple(lot), tables), (lot, tuple(tables)),
            ([list(post) for post in lot], tables), (dict(lot), tables), (lot, dict(tables)), ([], tables),
            (lot, [(place, tuple(rows)) for place, rows in tables]), (lot, [list(table) for table in tables]),
        ]
        for thing in near:
            self.assert_fence(thing, False)
        # Where only what moves nothing is made, tables without any table do.
        self.assertEqual(many_in(tables), 1)
        self.assert_fence((lot, []), True)
        for post in [
            (spot, list(home)), (list(spot), home), (("cave", [4, 2]), home), (spot, home, home), (spot,), spot, home,
            (home, spot),
            (("cave", (4, 2, 0)), home), (("attic", (4, 2)), home), (("cave", (4, 4)), home),
            (("cave", (4, True)), home), (spot, home[:4]), (spot, home + (5,)), (spot, (False, True, 2, 3, 4)),
            (spot, (0, True, 2, 3, 4)), (spot, (0, 0, 2, 3, 4)), (spot, None), (None, home), (spot, "01234"),
        ]:
            self.assert_fence(([post if near == (spot, home) else near for near in lot], tables), False)
            self.assert_fence((lot + [post], tables), False)

    def test_of_anything(self):
        lot, tables = fence(small_hall(), START)
        for thing in ODD:
            self.assert_fence(thing, False)
            self.assert_fence((thing, tables), False)
            self.assert_fence((lot, thing), thing == [])
            self.assert_fence((lot + [thing], tables), False)
            self.assert_fence((lot, tables + [thing]), False)
            self.assert_fence((lot + [(thing, (0, 1, 2, 3, 4))], tables), False)
            self.assert_fence((lot + [(("yard", (4, 2)), thing)], tables), False)


class BarsTest(unittest.TestCase):
    def test_what_is_not_in_the_lot(self):
        told = fence(small_hall(), START)
        inside = dict(told[0])
        for other in stands_of(small_hall()):
            if split(small_hall(), other) not in inside:
                assert_same(self, bars(small_hall(), START, told, other), True)

    def test_wider_fences_bar_less(self):
        for hall, stand in halls_and_stands():
            lot, _ = fence(hall, stand)
            wide = widest(hall, stand)
            for other in stands_of(hall):
                assert_same(self, bars(hall, stand, wide, other), False)
                assert_same(self, bars(hall, stand, (lot, wide[1]), other), split(hall, other) not in dict(lot))


class WalkedTest(unittest.TestCase):
    def ways_of(self, hall, stand):
        """Some ways from a stand, longer and longer."""
        way = []
        for number in range(9):
            yield list(way)
            doable = steps(hall, played(hall, stand, way)[-1])
            if not doable:
                return
            way.append(doable[(number * number + number) % len(doable)])

    def test_bars_just_what_the_fence_bars(self):
        for hall, stand in halls_and_stands():
            lot, tables = fence(hall, stand)
            wide = widest(hall, stand)
            for way in self.ways_of(hall, stand):
                last = played(hall, stand, way)[-1]
                for paper in ((lot, tables), (lot, wide[1]), wide):
                    told = walked(hall, stand, paper, way)
                    assert_same(self, told, (list(told[0]), list(told[1])))
                    self.assertIs(is_fence(hall, last, told), True)
                    for other in stands_of(hall)[::7]:
                        self.assertIs(bars(hall, last, told, other), bars(hall, stand, paper, other))

    def test_over_all_stands(self):
        hall, stand = halls_and_stands()[6]
        paper = fence(hall, stand)
        for way in (list(self.ways_of(hall, stand))[3], tuple(list(self.ways_of(hall, stand))[-1])):
            last = played(hall, stand, way)[-1]
            told = walked(hall, stand, paper, way)
            for other in stands_of(hall):
                self.assertIs(bars(hall, last, told, other), bars(hall, stand, paper, other))

    def test_along_a_way_that_can_not_be_gone(self):
        paper = fence(small_hall(), START)
        for way, at, why in [
            ([("arch", "forth"), ("nosuch", "forth")], 1, "door"), ([("gate", "forth")], 0, "asked"),
            ((("arch", "forth"), ("arch", "back"), ("lift", "forth")), 2, "room"), ([None], 0, "form"),
            ([("arch", "forth"), ["arch", "forth"]], 1, "form"),
        ]:
            with self.assertRaises(NoWay) as caught:
                walked(small_hall(), START, paper, way)
            assert_same(self, [caught.exception.at, caught.exception.why], [at, why])

    def test_nothing_handed_in_is_changed(self):
        hall, stand = halls_and_stands()[6]
        paper = fence(hall, stand)
        way = list(self.ways_of(hall, stand))[3]
        kept = copy.deepcopy((paper, way))
        told = walked(hall, stand, paper, way)
        told[0].clear()
        told[1][0][1].clear()
        walked(hall, stand, paper, [])[0].clear()
        is_fence(hall, stand, paper)
        bars(hall, stand, paper, stand)
        self.assertEqual((paper, way), kept)


class GreatHallsTest(unittest.TestCase):
    def test_within_a_second_or_two(self):
        for hall, stand in halls_of_twelve():
            began = process_time()
            told = fence(hall, stand)
            self.assertIs(is_fence(hall, stand, told), True)
            way = [steps(hall, stand)[0]]
            last = played(hall, stand, way)[-1]
            self.assertIs(is_fence(hall, last, walked(hall, stand, told, way)), True)
            self.assertIs(bars(hall, stand, told, last), False)
            self.assertLess(process_time() - began, 5)
            self.assertEqual(many_in(told[1]), 3628800)
            self.assertTrue(all(is_split(hall, spot) for spot, _ in told[0]))

    def test_a_hall_of_even_arrangements_bars_half(self):
        turn, swaps = (*range(1, 11), 0, 11), (1, 0, 3, 2, *range(4, 12))
        hall = Hall(12, (), ("a",), [("turn", "a", "a", turn, ()), ("swaps", "a", "a", swaps, ())])
        stand = ("a", tuple(range(12)))
        told = fence(hall, stand)
        self.assertEqual(many_in(told[1]) * 2, 39916800)
        self.assertIs(bars(hall, stand, told, ("a", swaps)), False)
        self.assertIs(bars(hall, stand, told, ("a", (1, 0, *range(2, 12)))), True)
        self.assertIs(bars(hall, stand, told, ("a", (11, *range(11)))), True)


class PlainKindsTest(unittest.TestCase):
    def test_told_are_just_the_told_kinds(self):
        hall, start = halls_and_stands()[6]
        stand = Row([Text(start[0]), Row([Number(mark) for mark in start[1]])])
        told = fence(hall, start)
        assert_same(self, fence(hall, stand), told)
        lot = [
            Row([Row([Text(room), Row(map(Number, places))]), Row(map(Number, one))]) for (room, places), one in told[0]
        ]
        tables = [Row([Number(place), [Row(map(Number, row)) for row in rows]]) for place, rows in told[1]]
        for way in ([], [("arch", "forth")]):
            assert_same(self, walked(hall, stand, (lot, tables), way), walked(hall, start, told, way))

    def test_arguments_by_their_names(self):
        hall = small_hall()
        paper = fence(stand=START, hall=hall)
        self.assertTrue(is_fence(thing=paper, stand=START, hall=hall))
        self.assertFalse(bars(other=START, fence=paper, stand=START, hall=hall))
        self.assertEqual(walked(way=[], fence=paper, stand=START, hall=hall), walked(hall, START, paper, []))


if __name__ == "__main__":
    unittest.main()
