"""Points 2, 4, 33 and 39: fewest steps, papers of the fewest."""

import copy
import unittest
from math import factorial
from time import process_time

from recutkeys.bounds import MOST_SPOTS
from recutkeys.counts import many_stands
from recutkeys.errors import NoWay, TooMany
from recutkeys.fewest import fewest, fewest_paper, is_fewest
from recutkeys.halls import Hall
from recutkeys.stands import is_stand
from recutkeys.steps import done, steps
from recutkeys.ways import played
from tests.samples import (
    ODD, Number, Row, Text, assert_same, gone_through, halls_and_stands, small_hall, stands_of,
)

START = ("cave", (0, 1, 4, 3, 2))


def row_of_rooms(rooms):
    """So many rooms in a row, each with all 720 keys of six places, and a stand in the first one."""
    names = [chr(97 + number) for number in range(rooms)]
    home = tuple(range(6))
    doors = [("turn", "a", "a", (1, 2, 3, 4, 5, 0), ()), ("swap", "a", "a", (1, 0, 2, 3, 4, 5), ())]
    doors += [("to" + other, one, other, home, ()) for one, other in zip(names, names[1:])]
    return Hall(6, (), names, doors), ("a", home)


def holds_by_the_words(hall, stand, other, thing):
    """Whether a tuple (way, list of tuples of two) is a paper of the fewest, told by the document's words alone."""
    way, listed = thing
    if not all(is_stand(hall, near) and type(number) is int and number >= 0 for near, number in listed):
        return False
    numbers = dict(listed)
    if len(numbers) < len(listed) or numbers.get(stand) != 0:
        return False
    for near, number in listed:
        for step in steps(hall, near):
            if numbers.get(done(hall, near, step), number + 2) > number + 1:
                return False
    if other not in numbers:
        return way is None
    if type(way) not in (list, tuple) or len(way) != numbers[other]:
        return False
    try:
        return played(hall, stand, way)[-1] == other
    except NoWay:
        return False


class FewestTest(unittest.TestCase):
    def assert_refused(self, told, most, hall, stand, other):
        with self.assertRaises(TooMany) as caught:
            told(hall, stand, other, most=most)
        assert_same(self, caught.exception.most, most)

    def assert_told(self, told, number, hall, stand, other):
        """Told are so many steps, and such a way."""
        assert_same(self, told, (number, tuple(told[1])))
        self.assertEqual(len(told[1]), number)
        self.assertEqual(played(hall, stand, told[1])[-1], other)

    def test_held_against_going_through_round_by_round(self):
        for hall, stand in halls_and_stands():
            inside = gone_through(hall, stand)
            for other in stands_of(hall):
                told = fewest(hall, stand, other)
                if other in inside:
                    self.assert_told(told, inside[other], hall, stand, other)
                else:
                    assert_same(self, told, None)

    def test_from_other_stands(self):
        hall, stand = halls_and_stands()[7]
        for one in list(gone_through(hall, stand))[::17]:
            inside = gone_through(hall, one)
            for other in stands_of(hall)[::5]:
                told = fewest(hall, one, other)
                self.assertEqual(None if told is None else told[0], inside.get(other))

    def test_the_stand_itself(self):
        for hall, stand in halls_and_stands():
            assert_same(self, fewest(hall, stand, stand), (0, ()))

    def test_the_most(self):
        for hall, stand in halls_and_stands():
            inside = gone_through(hall, stand)
            barred = [other for other in stands_of(hall) if other not in inside]
            for other in [stand, list(inside)[-1], *barred[:1], *barred[-1:]]:
                for told in (fewest, fewest_paper):
                    self.assertEqual(told(hall, stand, other, most=len(inside)), told(hall, stand, other))
                    self.assertEqual(told(hall, stand, other, most=10 ** 9), told(hall, stand, other))
                    self.assert_refused(told, len(inside) - 1, hall, stand, other)
                    self.assert_refused(told, 0, hall, stand, other)

    def test_where_no_most_is_told(self):
        assert_same(self, MOST_SPOTS, 2000)
        hall, stand = row_of_rooms(2)
        self.assertEqual(many_stands(hall, stand), 1440)
        far = ("b", (5, 4, 3, 2, 1, 0))
        number = gone_through(hall, stand)[far]
        self.assert_told(fewest(hall, stand, far), number, hall, stand, far)
        self.assert_told(fewest(hall, stand, far, most=1440), number, hall, stand, far)
        self.assert_refused(fewest, 1439, hall, stand, far)
        way, numbers = fewest_paper(hall, stand, far)
        self.assertEqual((len(way), len(numbers)), (number, 1440))
        self.assertIs(is_fewest(hall, stand, far, (way, numbers)), True)
        hall, stand = row_of_rooms(3)
        self.assertEqual(many_stands(hall, stand), 2160)
        for other in (far, stand):
            for told in (fewest, fewest_paper):
                with self.assertRaises(TooMany) as caught:
                    told(hall, stand, other)
                assert_same(self, caught.exception.most, 2000)
        self.assert_told(fewest(hall, stand, far, most=2160), number, hall, stand, far)

    def test_refused_where_the_other_can_not_be_come_to(self):
        hall, stand = row_of_rooms(3)
        walled = Hall(6, (), [*hall.rooms(), "z"], [(name, *hall.door(name)) for name in hall.doors()])
        for told in (fewest, fewest_paper):
            self.assert_refused(told, 2159, walled, stand, ("z", stand[1]))
        assert_same(self, fewest(walled, stand, ("z", stand[1]), most=2160), None)
        way, numbers = fewest_paper(walled, stand, ("z", stand[1]), most=2160)
        self.assertEqual((way, len(numbers)), (None, 2160))

    def test_of_hundreds_of_millions(self):
        home = tuple(range(12))
        doors = [("turn", "a", "a", (*home[1:], 0), ()), ("swap", "a", "a", (1, 0, *home[2:]), ())]
        hall, stand = Hall(12, (), ("a", "b"), doors), ("a", home)
        began = process_time()
        for other in (stand, ("a", (*home[1:], 0)), ("b", home)):
            for told in (fewest, fewest_paper):
                self.assert_refused(told, 2000, hall, stand, other)
            self.assert_refused(fewest, factorial(12) - 1, hall, stand, other)
        # Near ones are told without going through all that may be.
        near = ("a", (11, 0, *home[1:11]))
        self.assert_told(fewest(hall, stand, near, most=factorial(12)), 1, hall, stand, near)
        assert_same(self, fewest(hall, stand, ("b", home), most=factorial(12)), None)
        self.assertLess(process_time() - began, 8)


class PaperTest(unittest.TestCase):
    def test_what_is_told_is_let_by(self):
        for hall, stand in halls_and_stands():
            inside = gone_through(hall, stand)
            others = stands_of(hall)
            for other in others[::max(1, len(others) // 40)] + [stand]:
                told = fewest_paper(hall, stand, other)
                assert_same(self, told, (told[0], list(told[1])))
                self.assertEqual(sorted(told[1]), sorted(inside.items()))
                self.assertIs(is_fewest(hall, stand, other, told), True)
                self.assertTrue(holds_by_the_words(hall, stand, other, told))
                if other in inside:
                    self.assertIs(type(told[0]), tuple)
                    self.assertEqual(len(told[0]), inside[other])
                    self.assertEqual(played(hall, stand, told[0])[-1], other)
                else:
                    assert_same(self, told[0], None)

    def test_of_itself(self):
        for hall, stand in halls_and_stands():
            assert_same(self, fewest_paper(hall, stand, stand)[0], ())

    def test_told_lists_are_the_askers_own(self):
        hall, stand = halls_and_stands()[6]
        other = stands_of(hall)[-1]
        kept = copy.deepcopy(fewest_paper(hall, stand, other))
        fewest_paper(hall, stand, other)[1].clear()
        assert_same(self, fewest_paper(hall, stand, other), kept)

    def test_told_are_just_the_told_kinds(self):
        hall, start = halls_and_stands()[6]
        stand = Row([Text(start[0]), Row([Number(mark) for mark in start[1]])])
        for room, key in stands_of(hall)[::13]:
            other = Row([Text(room), Row([Number(mark) for mark in key])])
            assert_same(self, fewest(hall, stand, other), fewest(hall, start, (room, key)))
            assert_same(self, fewest_paper(hall, stand, other), fewest_paper(hall, start, (room, key)))

    def test_arguments_by_their_names(self):
        hall, other = small_hall(), ("cave", (2, 0, 1, 4, 3))
        told = fewest_paper(most=100, other=other, stand=START, hall=hall)
        assert_same(self, told, fewest_paper(hall, START, other))
        self.assertIs(is_fewest(thing=told, other=other, stand=START, hall=hall), True)
        assert_same(self, fewest(most=100, other=other, stand=START, hall=hall), fewest(hall, START, other))
        for named in (fewest, fewest_paper):
            with self.assertRaises(TypeError):
                named(hall, START, other, 100)


class IsFewestTest(unittest.TestCase):
    def setUp(self):
        # A board of two by two, on which the pieces go round: twelve stands in a ring.
        self.hall, self.stand = halls_and_stands()[4]
        inside = gone_through(self.hall, self.stand)
        self.other = list(inside)[7]
        self.way, self.numbers = fewest_paper(self.hall, self.stand, self.other)
        self.assertEqual((len(inside), len(self.way)), (12, 4))
        self.barred = [other for other in stands_of(self.hall) if other not in inside]

    def assert_is(self, thing, right):
        with self.subTest(str(thing)[:300]):
            self.assertIs(is_fewest(self.hall, self.stand, self.other, thing), right)

    def assert_by_the_words(self, thing):
        """The answer is that of the document's words; the answer."""
        right = holds_by_the_words(self.hall, self.stand, self.other, thing)
        self.assert_is(thing, right)
        return right

    def with_post(self, at, *posts):
        """The paper with other posts in the place of that one."""
        return (self.way, [*self.numbers[:at], *posts, *self.numbers[at + 1:]])

    def test_a_stand_out_or_twice_or_another_one(self):
        for at, (near, number) in enumerate(self.numbers):
            self.assert_is(self.with_post(at), False)
            self.assert_is(self.with_post(at, (near, number), (near, number)), False)
            self.assert_is(self.with_post(at, (near, number), (near, number + 1)), False)
            for other in [self.barred[0], self.barred[-1], *[post[0] for post in self.numbers]]:
                self.assert_is(self.with_post(at, (other, number)), other == near)

    def test_a_number_otherwise(self):
        seen = []
        for at, (near, number) in enumerate(self.numbers):
            for other in range(-2, 9):
                seen.append(self.assert_by_the_words(self.with_post(at, (near, other))))
            for other in (True, False, None, "0", (number,), [number], -1, 10 ** 30, -(10 ** 30)):
                self.assert_is(self.with_post(at, (near, other)), False)
        # Lesser numbers of others than the two stands say less, but nothing wrong.
        self.assertGreater(seen.count(True), len(self.numbers))
        self.assertIn(False, seen)

    def test_truths_for_numbers(self):
        for at, (near, number) in enumerate(self.numbers):
            if number < 2:
                self.assert_is(self.with_post(at, (near, bool(number))), False)

    def test_all_numbers_nought(self):
        nought = [(near, 0) for near, _ in self.numbers]
        self.assert_is((self.way, nought), False)
        self.assert_is(((), nought), False)
        self.assertIs(is_fewest(self.hall, self.stand, self.stand, ((), nought)), True)
        self.assertIs(is_fewest(self.hall, self.stand, self.barred[0], (None, nought)), True)

    def test_the_order_of_the_list(self):
        self.assert_is((self.way, self.numbers[::-1]), True)
        self.assert_is((self.way, sorted(self.numbers)), True)

    def test_the_way_otherwise(self):
        way = self.way
        self.assert_is((list(way), self.numbers), True)
        ways = [(), [], None, way[::-1], way + way, way + way[-1:], "", "gate forth", {}, (None,) * 4]
        for at, (door, side) in enumerate(way):
            ahead, after = way[:at], way[at + 1:]
            ways += [ahead + after, ahead + ((door, side),) * 2 + after, ahead + ((door, "sideways"),) + after]
            ways += [ahead + (("nosuch", side),) + after, ahead + ([door, side],) + after, ahead + (None,) + after]
            # There and back again comes there, too, but not by so few.
            ways += [ahead + ((door, side), (door, "back" if side == "forth" else "forth")) + way[at:]]
        for other in ways:
            self.assertFalse(self.assert_by_the_words((other, self.numbers)))

    def test_a_longer_way_with_its_number(self):
        # A way that isn't of the fewest finds no numbers by which it would be.
        far = [*self.way, *[("ab", "forth"), ("ab", "back")]]
        for at, (near, number) in enumerate(self.numbers):
            if near == self.other:
                self.assert_is((far, self.with_post(at, (near, number + 2))[1]), False)
        more = [(near, number + 2 if number else 0) for near, number in self.numbers]
        self.assert_is((far, more), False)

    def test_of_all_other_stands(self):
        for other in stands_of(self.hall):
            paper = (self.way, self.numbers)
            self.assertIs(is_fewest(self.hall, self.stand, other, paper), other == self.other)
            self.assertIs(is_fewest(self.hall, self.stand, other, (None, self.numbers)), other in self.barred)
        for stand in stands_of(self.hall):
            for paper in [(self.way, self.numbers), (None, self.numbers)]:
                right = holds_by_the_words(self.hall, stand, self.other, paper)
                self.assertIs(is_fewest(self.hall, stand, self.other, paper), right)
                self.assertEqual(right, stand == self.stand and paper[0] is not None)

    def test_more_stands_listed_than_can_be_come_to(self):
        rest = [(near, 3) for near in self.barred]
        self.assert_is((self.way, self.numbers + rest), True)
        for number in (-1, True, False, None):
            self.assert_is((self.way, self.numbers + [(near, number) for near in self.barred]), False)
        self.assert_is((self.way, self.numbers + [(near, 10 ** 30) for near in self.barred]), True)
        self.assert_is((self.way, self.numbers + [(near, 0) for near in self.barred]), True)
        # Of a stand that is listed a way must be told, and there is none to it.
        for way in (None, (), self.way):
            self.assertIs(is_fewest(self.hall, self.stand, self.barred[0], (way, self.numbers + rest)), False)
        # What is listed must be shut: no step leads out.
        self.assert_is((self.way, self.numbers + rest[:1]), False)
        self.assert_is((self.way, self.numbers + rest[1:]), False)
        for number in range(6):
            self.assert_by_the_words((self.way, self.numbers + [(self.barred[0], number)] + rest[1:]))

    def test_of_a_stand_that_is_not_listed(self):
        numbers = [(near, number) for near, number in self.numbers]
        self.other = self.barred[3]
        self.assert_is((None, numbers), True)
        for way in [(), [], self.way, False, 0, ""]:
            self.assert_is((way, numbers), False)

    def test_a_step_that_leads_two_on(self):
        hall = Hall(2, (), ("a", "b", "c"), [("d", "a", "b", (0, 1), ()), ("e", "b", "c", (0, 1), ())])
        key = (0, 1)
        way = [("d", "forth"), ("e", "forth")]
        for numbers, right in [((0, 1, 2), True), ((0, 1, 3), False), ((0, 2, 2), False), ((0, 0, 2), False),
                               ((0, 1, 1), False), ((1, 1, 2), False), ((0, 2, 3), False)]:
            listed = [((room, key), number) for room, number in zip("abc", numbers)]
            self.assertIs(is_fewest(hall, ("a", key), ("c", key), (way, listed)), right)

    def test_however_many_stands_it_lists(self):
        hall, stand = row_of_rooms(3)
        other = ("c", (5, 4, 3, 2, 1, 0))
        paper = fewest_paper(hall, stand, other, most=2160)
        began = process_time()
        self.assertIs(is_fewest(hall, stand, other, paper), True)
        self.assertIs(is_fewest(hall, stand, other, (paper[0], paper[1][:-1])), False)
        self.assertLess(process_time() - began, 4)

    def test_lists_and_tuples(self):
        way, numbers = self.way, self.numbers
        for thing in [
            [way, numbers], (numbers, way), (way,), (way, numbers, []), (way, tuple(numbers)), numbers, way, (),
            (way, [list(post) for post in numbers]), (way, dict(numbers)), (way, [(*post, 0) for post in numbers]),
            (way, [post[:1] for post in numbers]), (way, [([*near], number) for near, number in numbers]),
            (way, [((near[0], list(near[1])), number) for near, number in numbers]), (way, []), (None, []),
        ]:
            self.assert_is(thing, False)

    def test_of_anything(self):
        for thing in ODD:
            self.assert_is(thing, False)
            self.assert_is((thing, self.numbers), False)
            self.assert_is((self.way, thing), False)
            self.assert_is((self.way, [*self.numbers, thing]), False)
            self.assert_is((self.way, [*self.numbers, (thing, 0)]), False)
            self.assert_is(self.with_post(3, thing), False)
            self.assert_is(((*self.way[:1], thing, *self.way[2:]), self.numbers), False)
            if not isinstance(thing, int) or isinstance(thing, bool):
                self.assert_is(self.with_post(0, (self.numbers[0][0], thing)), False)
        # None of these stands can be listed: not those of another hall.
        for near in [("cave", (0, 1, 2, 3)), ("board", (0, 1, 2)), ("board", (0, 1, 2, 2)), ("board", (0, 1, 2, True))]:
            self.assert_is((self.way, [*self.numbers, (near, 3)]), False)


if __name__ == "__main__":
    unittest.main()
