"""Points 2, 3, 4 and 40: walks."""

import copy
import unittest
from unittest.mock import ANY

from recutkeys.changes import reasked, recut, unasked, walled
from recutkeys.errors import NoMoment, NoMore, NoName, NoStep
from recutkeys.halls import Hall
from recutkeys.halltexts import show_hall
from recutkeys.rows import comes_to, is_rows
from recutkeys.stands import split
from recutkeys.steps import done, steps
from recutkeys.walk import Walk
from tests.samples import (
    ODD, Number, Row, Text, assert_same, gone_through, great_hall, halls_and_stands, small_hall, stands_of,
)

START = ("cave", (0, 1, 4, 3, 2))
# Acts that can be done one behind another in the small hall, and what each is told as.
ACTS = [
    ("do", ("arch", "forth")), ("unask", "gate"), ("do", ("gate", "forth")), ("recut", "lift", (4, 3, 2, 1, 0)),
    ("ask", "gate", ((2, 1), (4, 4))), ("wall", "arch"), ("unask", "lift"), ("do", ("lift", "forth")),
    ("ask", "gate", ()), ("wall", "gate"),
]


def act_on(walk, act):
    """Do an act that is told as a tuple."""
    word, *more = act
    return getattr(walk, word)(*more)


def walk_of(many=len(ACTS)):
    """A walk through the small hall with so many acts."""
    walk = Walk(small_hall(), START)
    for act in ACTS[:many]:
        act_on(walk, act)
    return walk


def by_the_words(acts, hall, stand):
    """Halls and stands of all moments, by the document's words."""
    moments = [(hall, stand)]
    for word, *more in acts:
        change = {"wall": walled, "unask": unasked, "recut": recut, "ask": reasked}.get(word)
        hall, stand = moments[-1]
        moments.append((hall, done(hall, stand, *more)) if word == "do" else (change(hall, *more), stand))
    return moments


def told_of(walk):
    """All that is told of a walk, but for what can be come to."""
    every = range(len(walk.acts()) + 1)
    told = [(show_hall(walk.hall_at(moment=moment)), walk.stand_at(moment=moment)) for moment in every]
    return (walk.acts(), told, show_hall(walk.hall_at()), walk.stand_at())


class WalkCase(unittest.TestCase):
    def assert_told(self, walk, acts, hall=None, stand=START):
        """Just these acts were done, and hall and stand are as of each moment and of now."""
        moments = by_the_words(acts, hall or small_hall(), stand)
        assert_same(self, walk.acts(), list(acts))
        for moment, (near, here) in enumerate(moments):
            self.assertIs(type(walk.hall_at(moment=moment)), Hall)
            self.assertEqual(walk.hall_at(moment=moment), near)
            assert_same(self, walk.stand_at(moment=moment), here)
        self.assertEqual(walk.hall_at(), moments[-1][0])
        assert_same(self, walk.stand_at(), moments[-1][1])
        self.assertEqual(walk.hall_at(moment=None), moments[-1][0])
        assert_same(self, walk.stand_at(moment=None), moments[-1][1])

    def assert_no_moment(self, walk, moment):
        for told in (walk.hall_at, walk.stand_at):
            with self.assertRaises(NoMoment) as caught:
                told(moment=moment)
            self.assertIs(caught.exception.asked, moment)

    def assert_no_more(self, walk, word):
        kept = told_of(walk)
        with self.assertRaises(NoMore) as caught:
            getattr(walk, word)()
        assert_same(self, caught.exception.word, word)
        self.assertEqual(told_of(walk), kept)


class ActsTest(WalkCase):
    def test_told_behind_each_act(self):
        walk = Walk(small_hall(), START)
        self.assert_told(walk, [])
        for number, act in enumerate(ACTS):
            self.assertIsNone(act_on(walk, act))
            self.assert_told(walk, ACTS[:number + 1])

    def test_all_halls_that_can_be(self):
        for hall, stand in halls_and_stands():
            walk, acts = Walk(hall, stand), []
            for number in range(12):
                can = steps(walk.hall_at(), walk.stand_at())
                doors = walk.hall_at().doors()
                if can and number % 3:
                    acts.append(("do", can[number % len(can)]))
                elif doors:
                    door = doors[number % len(doors)]
                    asks = tuple((mark, number % hall.places()) for mark in hall.watched())
                    cut = (*range(1, hall.places()), 0)
                    acts.append(
                        [("unask", door), ("recut", door, cut), ("ask", door, asks), ("wall", door)][number // 3])
                else:
                    break
                act_on(walk, acts[-1])
                self.assert_told(walk, acts, hall, stand)

    def test_asks_as_the_hall_has_them(self):
        for asks in [[(4, 1), (2, 3)], ((4, 1), (2, 3)), [(2, 3), (4, 1)], ((2, 3), (4, 1))]:
            walk = Walk(small_hall(), START)
            self.assertIsNone(walk.ask("arch", asks))
            assert_same(self, walk.acts(), [("ask", "arch", ((2, 3), (4, 1)))])
            self.assertEqual(walk.hall_at().door("arch")[3], ((2, 3), (4, 1)))

    def test_changes_to_what_is_there(self):
        walk = Walk(small_hall(), START)
        acts = [("unask", "arch"), ("recut", "gate", (1, 0, 2, 3, 4)), ("ask", "gate", ((2, 0),)), ("ask", "arch", ())]
        for act in acts:
            act_on(walk, act)
        self.assert_told(walk, acts)
        self.assertEqual(walk.hall_at(), small_hall())

    def test_the_stand_stays_where_the_hall_changes(self):
        walk = walk_of(1)
        here = walk.stand_at()
        cut = (0, 2, 1, 3, 4)
        for act in [("unask", "gate"), ("ask", "arch", ((2, 2),)), ("recut", "arch", cut), ("wall", "gate")]:
            act_on(walk, act)
            assert_same(self, walk.stand_at(), here)

    def test_arguments_by_their_names(self):
        walk = Walk(stand=START, hall=small_hall())
        walk.do(step=("arch", "forth"))
        walk.recut(cut=(4, 3, 2, 1, 0), door="lift")
        walk.ask(asks=[(2, 1)], door="gate")
        walk.unask(door="gate")
        walk.wall(door="arch")
        self.assert_told(walk, [
            ("do", ("arch", "forth")), ("recut", "lift", (4, 3, 2, 1, 0)), ("ask", "gate", ((2, 1),)),
            ("unask", "gate"), ("wall", "arch"),
        ])
        self.assertIs(walk.can(other=walk.stand_at()), True)
        for told in (walk.hall_at, walk.stand_at):
            with self.assertRaises(TypeError):
                told(0)


class RefusedTest(WalkCase):
    def assert_nothing_changed(self, kept, word, *things):
        """A refused act changes nothing, and lets nothing go of what was taken back; the refusal."""
        walk, twin = copy.deepcopy(kept), copy.deepcopy(kept)
        with self.assertRaises((NoStep, NoName)) as caught:
            getattr(walk, word)(*things)
        self.assertEqual(told_of(walk), told_of(kept))
        while True:
            try:
                wanted = twin.on()
            except NoMore:
                break
            assert_same(self, walk.on(), wanted)
        self.assertEqual(told_of(walk), told_of(twin))
        self.assert_no_more(walk, "on")
        return caught.exception

    def some_walks(self):
        """Walks with acts done, and taken back."""
        for many in (0, 3, len(ACTS)):
            for times in range(0, many + 1, 2):
                walk = walk_of(many)
                for _ in range(times):
                    walk.back()
                yield walk

    def test_steps_that_can_not_be_done(self):
        for walk in self.some_walks():
            hall, here = walk.hall_at(), walk.stand_at()
            every = [(door, side) for door in ("gate", "arch", "lift", "nosuch", "cave") for side in ("back", "forth")]
            for step in every + ODD + [["arch", "forth"], ("arch",), ("arch", "forth", "")]:
                if isinstance(step, tuple) and step in steps(hall, here):
                    continue
                with self.assertRaises(NoStep) as wanted:
                    done(hall, here, step)
                refusal = self.assert_nothing_changed(walk, "do", step)
                assert_same(self, refusal.why, wanted.exception.why)

    def test_doors_that_are_not_there(self):
        for thing in ["cave", "yard", "nosuch", "Gate", "gate ", ["gate"], ("gate",), {"gate": 1}, 5, *ODD]:
            for walk in self.some_walks():
                for word, *more in [("wall",), ("unask",), ("recut", (1, 0, 2, 3, 4)), ("ask", [])]:
                    refusal = self.assert_nothing_changed(walk, word, thing, *more)
                    self.assertIs(type(refusal), NoName)
                    self.assertIs(refusal.asked, thing)

    def test_doors_walled_ahead(self):
        walk = Walk(small_hall(), START)
        walk.wall("gate")
        for word, *more in [("wall",), ("unask",), ("recut", (1, 0, 2, 3, 4)), ("ask", [])]:
            self.assertEqual(self.assert_nothing_changed(walk, word, "gate", *more).asked, "gate")
        self.assertEqual(self.assert_nothing_changed(walk, "do", ("gate", "forth")).why, "door")
        # Taken back, it is there again.
        walk.back()
        walk.unask("gate")
        self.assert_told(walk, [("unask", "gate")])

    def test_asks_as_they_are_then(self):
        walk = Walk(small_hall(), START)
        self.assertEqual(self.assert_nothing_changed(walk, "do", ("gate", "forth")).why, "asked")
        walk.ask("gate", [(2, 4)])
        walk.do(("gate", "forth"))
        self.assertEqual(self.assert_nothing_changed(walk, "do", ("gate", "forth")).why, "room")


class MomentTest(WalkCase):
    def test_moments_that_are_not_there(self):
        for many in (0, 1, len(ACTS)):
            walk = walk_of(many)
            for moment in [many + 1, many + 2, -1, -many - 1, 10 ** 30]:
                self.assert_no_moment(walk, moment)
            for thing in ODD + ["0", (0,), [0], "gate"]:
                if thing is not None and (isinstance(thing, bool) or thing not in (0, 1)):
                    self.assert_no_moment(walk, thing)
            self.assert_told(walk, ACTS[:many])

    def test_moments_taken_back(self):
        walk = walk_of()
        for many in reversed(range(len(ACTS))):
            walk.back()
            for moment in range(many + 1, len(ACTS) + 1):
                self.assert_no_moment(walk, moment)
            self.assert_told(walk, ACTS[:many])
        for many in range(1, len(ACTS) + 1):
            walk.on()
            self.assert_told(walk, ACTS[:many])


class BackAndOnTest(WalkCase):
    def test_taken_back_and_done_again(self):
        walk = walk_of()
        self.assert_no_more(walk, "on")
        for act in ACTS[::-1]:
            assert_same(self, walk.back(), act)
        self.assert_no_more(walk, "back")
        self.assert_told(walk, [])
        for act in ACTS:
            assert_same(self, walk.on(), act)
        self.assert_no_more(walk, "on")
        self.assert_told(walk, ACTS)

    def test_a_walk_without_acts(self):
        walk = Walk(small_hall(), START)
        self.assert_no_more(walk, "back")
        self.assert_no_more(walk, "on")

    def test_a_new_act_lets_go_what_was_taken_back(self):
        for many in range(1, len(ACTS) + 1):
            for times in range(1, many + 1):
                walk = walk_of(many)
                for _ in range(times):
                    walk.back()
                walk.unask("lift")
                kept = ACTS[:many - times] + [("unask", "lift")]
                self.assert_no_more(walk, "on")
                self.assert_told(walk, kept)
                assert_same(self, walk.back(), kept[-1])
                self.assert_told(walk, kept[:-1])
                assert_same(self, walk.on(), kept[-1])
                self.assert_told(walk, kept)

    def test_the_same_act_anew_lets_go_the_rest_too(self):
        walk = walk_of(5)
        walk.back()
        walk.back()
        act_on(walk, ACTS[3])
        self.assert_told(walk, ACTS[:4])
        self.assert_no_more(walk, "on")

    def test_back_and_on_in_turn(self):
        walk = walk_of(6)
        for _ in range(3):
            assert_same(self, [walk.back(), walk.back(), walk.on()], [ACTS[5], ACTS[4], ACTS[4]])
            assert_same(self, walk.on(), ACTS[5])
        self.assert_told(walk, ACTS[:6])


class CopyTest(WalkCase):
    def test_told_lists_changed(self):
        walk = walk_of()
        walk.acts().clear()
        walk.acts().append(("do", ("gate", "forth")))
        walk.hall_at().doors().clear()
        self.assert_told(walk, ACTS)
        self.assertIsNot(walk.acts(), walk.acts())

    def test_each_hall_is_a_new_one(self):
        hall = small_hall()
        walk = Walk(hall, START)
        for moment in (None, 0):
            self.assertIsNot(walk.hall_at(moment=moment), walk.hall_at(moment=moment))
            self.assertIsNot(walk.hall_at(moment=moment), hall)

    def test_told_and_handed_in_halls_changed(self):
        # Whatever is done to a hall that was handed in or told, the walk has its own.
        hall = small_hall()
        walk = Walk(hall, START)
        for near in (hall, walk.hall_at(), walk.hall_at(moment=0)):
            near.__init__(2, (), ("a",), [])
        self.assert_told(walk, [])
        walk.unask("gate")
        walk.hall_at().__init__(2, (), ("a",), [])
        self.assert_told(walk, [("unask", "gate")])

    def test_handed_in_lists_changed_behind(self):
        asks, walk = [(4, 1), (2, 3)], Walk(small_hall(), START)
        walk.ask("gate", asks)
        asks.clear()
        self.assert_told(walk, [("ask", "gate", ((2, 3), (4, 1)))])

    def test_handed_in_is_left_as_it_is(self):
        hall, asks = small_hall(), [(4, 1), (2, 3)]
        walk = Walk(hall, START)
        walk.ask("gate", asks)
        walk.wall("gate")
        self.assertEqual(hall, small_hall())
        self.assertEqual(asks, [(4, 1), (2, 3)])

    def test_told_rows_changed(self):
        walk = walk_of(4)
        kept = walk.way_home()
        walk.way_home().clear()
        for row in walk.way_home():
            row.clear()
        self.assertEqual(walk.way_home(), kept)

    def test_told_are_just_the_told_kinds(self):
        stand = Row([Text("cave"), Row([Number(mark) for mark in START[1]])])
        walk = Walk(small_hall(), stand)
        walk.do(Row([Text("arch"), Text("forth")]))
        walk.unask(Text("gate"))
        walk.do(Row([Text("gate"), Text("forth")]))
        walk.recut(Text("lift"), Row([Number(place) for place in (4, 3, 2, 1, 0)]))
        walk.ask(Text("gate"), Row([Row([Number(4), Number(4)]), Row([Number(2), Number(1)])]))
        walk.wall(Text("arch"))
        self.assert_told(walk, ACTS[:6])
        assert_same(self, walk.stand_at(moment=Number(0)), START)
        assert_same(self, [walk.back(), walk.on()], [ACTS[5], ACTS[5]])
        assert_same(self, walk.can(stand), walk_of(6).can(START))
        assert_same(self, walk.many(), walk_of(6).many())
        assert_same(self, walk.way_home(), walk_of(6).way_home())


class EqualTest(WalkCase):
    def assert_equal(self, one, other, right):
        for near, far in ((one, other), (other, one)):
            self.assertIs(near == far, right)
            self.assertIs(near != far, not right)

    def test_equal_ones(self):
        for many in range(len(ACTS) + 1):
            self.assert_equal(walk_of(many), walk_of(many), True)

    def test_what_was_taken_back_does_not_matter(self):
        for many in range(len(ACTS) + 1):
            walk = walk_of()
            for _ in range(len(ACTS) - many):
                walk.back()
            for other in range(len(ACTS) + 1):
                self.assert_equal(walk, walk_of(other), other == many)

    def test_unlike_in_one_thing(self):
        plain = Walk(small_hall(), START)
        self.assert_equal(plain, Walk(small_hall(), ("yard", START[1])), False)
        self.assert_equal(plain, Walk(small_hall(), ("cave", (1, 0, 4, 3, 2))), False)
        self.assert_equal(plain, Walk(unasked(small_hall(), "gate"), START), False)
        others = [("do", ("arch", "back")), ("unask", "lift"), ("recut", "gate", (0, 1, 2, 3, 4)), ("ask", "gate", ()),
                  ("ask", "gate", ((2, 1),)), ("wall", "gate"), ("wall", "lift"), ("recut", "lift", (0, 1, 2, 3, 4))]
        walks = []
        for act in others:
            walks.append(Walk(small_hall(), START))
            act_on(walks[-1], act)
        for one in walks:
            self.assert_equal(plain, one, False)
            for other in walks:
                self.assert_equal(one, other, one is other)

    def test_of_acts_that_come_to_the_same(self):
        # Hall and stand of now are alike, but what was done isn't.
        one, other = Walk(small_hall(), START), Walk(small_hall(), START)
        one.unask("gate")
        other.ask("gate", [])
        self.assertEqual(one.hall_at(), other.hall_at())
        self.assert_equal(one, other, False)
        one, other = Walk(small_hall(), START), Walk(small_hall(), START)
        for step in [("arch", "forth"), ("arch", "back")]:
            one.do(step)
        self.assertEqual(one.stand_at(), other.stand_at())
        self.assert_equal(one, other, False)

    def test_of_first_halls_that_come_to_the_same(self):
        one, other = Walk(small_hall(), START), Walk(unasked(small_hall(), "gate"), START)
        for walk in (one, other):
            walk.unask("gate")
        self.assertEqual(one.hall_at(), other.hall_at())
        self.assert_equal(one, other, False)
        # Of first stands likewise: from each another way round comes to the same.
        hall = Hall(2, (), ("a", "b", "c"), [("d", "a", "c", (0, 1), ()), ("e", "b", "c", (0, 1), ())])
        one, other = Walk(hall, ("a", (0, 1))), Walk(hall, ("a", (1, 0)))
        for walk in (one, other):
            walk.do(("d", "forth"))
        self.assert_equal(one, other, False)

    def test_against_a_thing_of_another_kind(self):
        walk = walk_of(3)
        for thing in ODD + [small_hall(), START, walk.acts(), ANY, Walk, NoMore("on"), walk.hall_at()]:
            self.assertIs(walk == thing, False)
            self.assertIs(walk != thing, True)
        self.assertIs(small_hall() == walk, False)


class ComeToTest(WalkCase):
    def assert_come_to(self, walk):
        """What can be come to is what going through all stands of the hall of now finds."""
        hall, here, first = walk.hall_at(), walk.stand_at(), walk.stand_at(moment=0)
        inside = gone_through(hall, here)
        assert_same(self, walk.many(), len(inside))
        others = stands_of(hall)
        for other in others[::max(1, len(others) // 30)] + [here, first]:
            assert_same(self, walk.can(other), other in inside)
        rows = walk.way_home()
        if first in inside:
            assert_same(self, rows, [list(row) for row in rows])
            self.assertTrue(is_rows(rows))
            self.assertIs(comes_to(hall, here, rows, first), True)
        else:
            assert_same(self, rows, None)
        return rows is not None

    def test_behind_each_act(self):
        seen = []
        walk = Walk(small_hall(), START)
        for act in ACTS:
            seen.append(self.assert_come_to(walk))
            act_on(walk, act)
        seen.append(self.assert_come_to(walk))
        for _ in ACTS:
            walk.back()
            self.assert_come_to(walk)
        for _ in ACTS[::2]:
            walk.on()
            self.assert_come_to(walk)
        self.assertIn(True, seen)
        self.assertIn(False, seen)

    def test_in_all_halls(self):
        for hall, stand in halls_and_stands():
            walk = Walk(hall, stand)
            self.assertTrue(self.assert_come_to(walk))
            for number in range(4):
                can = steps(walk.hall_at(), walk.stand_at())
                if can:
                    walk.do(can[number * 5 % len(can)])
                    self.assert_come_to(walk)
                if walk.hall_at().doors():
                    door = walk.hall_at().doors()[number % len(walk.hall_at().doors())]
                    act_on(walk, [("unask", door), ("wall", door)][number % 2])
                    self.assert_come_to(walk)

    def test_no_way_home_any_more(self):
        hall = Hall(3, (0,), ("a", "b"), [("c", "a", "b", (1, 0, 2), ()), ("d", "b", "b", (1, 2, 0), ())])
        first = ("a", (0, 1, 2))
        walk = Walk(hall, first)
        self.assertIs(comes_to(hall, first, walk.way_home(), first), True)
        walk.do(("c", "forth"))
        self.assertIs(comes_to(hall, walk.stand_at(), walk.way_home(), first), True)
        walk.wall("c")
        assert_same(self, walk.way_home(), None)
        assert_same(self, walk.can(first), False)
        assert_same(self, walk.many(), 3)
        walk.back()
        self.assertIs(walk.can(first), True)
        # Otherwise cut, the door leads back by another key.
        walk.recut("c", (0, 1, 2))
        assert_same(self, walk.can(first), walk.way_home() is not None)
        self.assert_come_to(walk)

    def test_of_the_first_stand_and_not_of_the_last(self):
        walk = Walk(small_hall(), START)
        walk.do(("arch", "forth"))
        walk.do(("arch", "forth"))
        self.assertIs(comes_to(small_hall(), walk.stand_at(), walk.way_home(), START), True)

    def test_a_great_hall(self):
        hall = great_hall()
        stand = ("raa", tuple(range(12)))
        walk = Walk(hall, stand)
        for door in hall.doors():
            walk.unask(door)
        for _ in range(5):
            walk.do(steps(walk.hall_at(), walk.stand_at())[-1])
        self.assertEqual(len(walk.acts()), 29)
        self.assertIs(comes_to(walk.hall_at(), walk.stand_at(), walk.way_home(), stand), True)
        self.assertEqual(split(walk.hall_at(), walk.stand_at(moment=24)), split(hall, stand))


if __name__ == "__main__":
    unittest.main()
