"""Points 2, 4 and 31: places kept together."""

import copy
import unittest
from itertools import combinations, permutations
from time import process_time

from recutkeys.errors import NoWay
from recutkeys.halls import Hall
from recutkeys.parts import loops
from recutkeys.stands import brings, split
from recutkeys.together import is_together, together
from recutkeys.ways import made, played, way_back
from tests.samples import (
    ODD, Number, Row, Text, assert_same, gone_through, halls_and_stands, halls_of_twelve, homes_of,
)


def parting_of(places, pairs):
    """The parting that pairs of places link, one to another."""
    groups = [{place} for place in range(places)]
    for first, second in pairs:
        one = next(group for group in groups if first in group)
        other = next(group for group in groups if second in group)
        if one is not other:
            groups.remove(other)
            one |= other
    return sorted(tuple(sorted(group)) for group in groups)


def finest_by_all(places, homes, one, other):
    """The finest parting with both places in one tuple that all these arrangements keep: all pairs moved by all."""
    return parting_of(places, [(home[one], home[other]) for home in homes])


def keeps(home, parting):
    """Whether an arrangement keeps a parting, told by the words of the point."""
    groups = [set(group) for group in parting]
    return all(any({home[place] for place in group} <= end for end in groups) for group in groups)


def is_place(hall, thing):
    """Whether anything is a place of the hall."""
    return type(thing) is int and 0 <= thing < hall.places()


def join_holds(hall, stand, joins, at):
    """Whether a tuple of four is a join that comes of an earlier one, told by the words of the point."""
    first, second, origin, way = joins[at]
    if type(origin) is not int or not 0 <= origin < at or type(way) not in (list, tuple):
        return False
    try:
        end = played(hall, stand, way)[-1]
    except NoWay:
        return False
    moves = brings(stand[1], end[1])
    return split(hall, end) == split(hall, stand) and [moves[joins[origin][0]], moves[joins[origin][1]]] == [
        first, second,
    ]


def holds_by_the_words(hall, stand, homes, pair, thing):
    """Whether (parting, joins), of tuples of as many things as told, holds by the document's words alone."""
    parting, joins = thing
    if not joins or not all(is_place(hall, place) for join in joins for place in join[:2]):
        return False
    if joins[0] != (min(pair), max(pair), None, None):
        return False
    if not all(join_holds(hall, stand, joins, at) for at in range(1, len(joins))):
        return False
    if parting != parting_of(hall.places(), [join[:2] for join in joins]):
        return False
    return all(keeps(home, parting) for home in homes)


def wide_hall():
    """A hall with a stand whose home arrangements keep three pairs together."""
    return halls_and_stands()[5]


class TogetherTest(unittest.TestCase):
    def assert_told(self, hall, stand, homes, pair):
        """What is told of two places is the finest parting, with joins that hold."""
        told = together(hall, stand, *pair)
        assert_same(self, told, (list(told[0]), list(told[1])))
        assert_same(self, told[0], finest_by_all(hall.places(), homes, *pair))
        assert_same(self, told[1][0], (min(pair), max(pair), None, None))
        for join in told[1][1:]:
            self.assertEqual([type(thing) for thing in join], [int, int, int, tuple])
        self.assertTrue(holds_by_the_words(hall, stand, homes, pair, told))
        self.assertIs(is_together(hall, stand, *pair, told), True)
        self.assertIs(is_together(hall, stand, *pair[::-1], told), True)
        return told

    def test_held_against_all_home_arrangements(self):
        seen = set()
        for hall, stand in halls_and_stands():
            homes = homes_of(hall, stand)
            for pair in permutations(range(hall.places()), 2):
                told = self.assert_told(hall, stand, homes, pair)
                seen.add(len(told[0]))
        # From all in one tuple to five places, of which just the two are together.
        self.assertLessEqual({1, 2, 3, 4}, seen)

    def test_of_other_stands_of_the_part(self):
        hall, stand = halls_and_stands()[7]
        for other in list(gone_through(hall, stand))[::7]:
            homes = homes_of(hall, other)
            for pair in combinations(range(hall.places()), 2):
                self.assert_told(hall, other, homes, pair)

    def test_in_either_order(self):
        for hall, stand in halls_and_stands():
            for one, other in combinations(range(hall.places()), 2):
                assert_same(self, together(hall, stand, other, one), together(hall, stand, one, other))

    def test_no_finer_one_is_kept(self):
        # All partings of four or five places that have the two in one tuple and that all homes keep are coarser.
        for hall, stand in halls_and_stands():
            places, homes = hall.places(), homes_of(hall, stand)
            if places > 4:
                continue
            every = list(combinations(range(places), 2))
            partings = {
                tuple(parting_of(places, some)) for many in range(len(every) + 1)
                for some in combinations(every, many)
            }
            for pair in every:
                finest, _ = together(hall, stand, *pair)
                fitting = [
                    parting for parting in partings
                    if any(set(pair) <= set(group) for group in parting) and all(keeps(home, parting) for home in homes)
                ]
                self.assertIn(tuple(finest), fitting)
                for parting in fitting:
                    self.assertTrue(all(any(set(one) <= set(group) for group in parting) for one in finest))

    def test_a_ring_of_twelve_places(self):
        ring = Hall(12, (), ("a",), [("c", "a", "a", (*range(1, 12), 0), ())])
        stand = ("a", tuple(range(12)))
        for apart, many in [(1, 1), (2, 2), (3, 3), (4, 4), (5, 1), (6, 6), (7, 1), (8, 4), (9, 3), (10, 2), (11, 1)]:
            wanted = [tuple(range(first, 12, many)) for first in range(many)]
            for first in range(12 - apart):
                told = together(ring, stand, first, first + apart)
                assert_same(self, told[0], wanted)
                assert_same(self, told[1][0], (first, first + apart, None, None))
                self.assertIs(is_together(ring, stand, first, first + apart, told), True)

    def test_rows_of_four_that_are_exchanged(self):
        swapped = (*range(4, 8), *range(4), *range(8, 12))
        rows = [("c", "a", "a", (*range(4, 12), *range(4)), ()), ("d", "a", "a", swapped, ())]
        turn = ("e", "a", "a", (1, 2, 3, 0, *range(4, 12)), ())
        swap = ("f", "a", "a", (1, 0, *range(2, 12)), ())
        stand = ("a", tuple(range(12)))
        three = [(0, 1, 2, 3), (4, 5, 6, 7), (8, 9, 10, 11)]
        hall = Hall(12, (), ("a",), [*rows, turn, swap])
        for one, other in combinations(range(12), 2):
            told = together(hall, stand, one, other)
            assert_same(self, told[0], three if one // 4 == other // 4 else [tuple(range(12))])
            self.assertIs(is_together(hall, stand, one, other, told), True)
        # Without the exchange in a row, what is across stays across.
        hall = Hall(12, (), ("a",), [*rows, turn])
        assert_same(self, together(hall, stand, 4, 6)[0], [(0, 2), (1, 3), (4, 6), (5, 7), (8, 10), (9, 11)])
        assert_same(self, together(hall, stand, 4, 7)[0], three)
        # Where rows are exchanged alone, columns are what can be linked.
        hall = Hall(12, (), ("a",), rows)
        wanted = [(0,), (1, 5, 9), (2,), (3,), (4,), (6,), (7,), (8,), (10,), (11,)]
        assert_same(self, together(hall, stand, 1, 9)[0], wanted)

    def test_places_that_never_move(self):
        hall = Hall(4, (), ("a", "b"), [("c", "a", "b", (1, 2, 3, 0), ()), ("d", "b", "b", (0, 1, 2, 3), ())])
        for one, other in combinations(range(4), 2):
            told = together(hall, ("a", (2, 1, 0, 3)), one, other)
            wanted = sorted([(one, other)] + [(place,) for place in range(4) if place not in (one, other)])
            assert_same(self, told, (wanted, [(one, other, None, None)]))

    def test_places_that_never_move_beside_others(self):
        # Place 0 and 1 stay, of the others each comes to each: linked with one that stays, all of them are.
        hall = Hall(5, (), ("a",), [("c", "a", "a", (0, 1, 3, 4, 2), ())])
        stand = ("a", (0, 1, 2, 3, 4))
        assert_same(self, together(hall, stand, 1, 0), ([(0, 1), (2,), (3,), (4,)], [(0, 1, None, None)]))
        assert_same(self, together(hall, stand, 1, 3)[0], [(0,), (1, 2, 3, 4)])
        assert_same(self, together(hall, stand, 4, 3)[0], [(0,), (1,), (2, 3, 4)])

    def test_the_watched_marks_place(self):
        # Home the empty mark is always where it was; so its place is linked with nothing that others aren't.
        hall, stand = halls_and_stands()[4]
        assert_same(self, together(hall, stand, 0, 2)[0], [(0, 2, 3), (1,)])
        assert_same(self, together(hall, stand, 0, 1)[0], [(0, 1, 2, 3)])

    def test_great_halls(self):
        for hall, stand in halls_of_twelve():
            began = process_time()
            for one, other in [(0, 11), (3, 7), (5, 6)]:
                told = together(hall, stand, one, other)
                self.assertIs(is_together(hall, stand, one, other, told), True)
                stay = {3, 7} & {one, other}
                group = [place for place in range(12) if place not in {3, 7} - stay] if len(stay) < 2 else [3, 7]
                self.assertIn(tuple(group), told[0])
            self.assertLess(process_time() - began, 8)

    def test_told_lists_are_the_askers_own(self):
        hall, stand = wide_hall()
        kept = copy.deepcopy(together(hall, stand, 0, 2))
        parting, joins = together(hall, stand, 0, 2)
        parting.clear()
        joins.clear()
        assert_same(self, together(hall, stand, 0, 2), kept)

    def test_told_are_just_the_told_kinds(self):
        hall, start = halls_and_stands()[6]
        stand = Row([Text(start[0]), Row([Number(mark) for mark in start[1]])])
        for one, other in combinations(range(5), 2):
            assert_same(self, together(hall, stand, Number(one), Number(other)), together(hall, start, one, other))

    def test_arguments_by_their_names(self):
        hall, stand = wide_hall()
        told = together(other=1, one=3, stand=stand, hall=hall)
        assert_same(self, told, together(hall, stand, 3, 1))
        self.assertIs(is_together(thing=told, other=1, one=3, stand=stand, hall=hall), True)


class IsTogetherTest(unittest.TestCase):
    def setUp(self):
        self.hall, self.stand = wide_hall()
        self.homes = homes_of(self.hall, self.stand)
        self.pair = (0, 2)
        self.parting, self.joins = together(self.hall, self.stand, *self.pair)
        self.assertGreater(len(self.joins), 2)

    def assert_is(self, thing, right):
        with self.subTest(str(thing)[:300]):
            self.assertIs(is_together(self.hall, self.stand, *self.pair, thing), right)

    def assert_by_the_words(self, thing):
        """The answer is that of the document's words; the answer."""
        right = holds_by_the_words(self.hall, self.stand, self.homes, self.pair, thing)
        self.assert_is(thing, right)
        return right

    def test_the_parting_otherwise(self):
        for hall, stand in halls_and_stands():
            self.hall, self.stand, self.homes = hall, stand, homes_of(hall, stand)
            for self.pair in combinations(range(hall.places()), 2):
                parting, joins = together(hall, stand, *self.pair)
                self.assert_is((parting, joins), True)
                partings = [parting[::-1], [], [*parting, ()], [(), *parting], parting + parting, parting[1:]]
                partings += [[tuple(range(hall.places()))], [(place,) for place in range(hall.places())]]
                for at, group in enumerate(parting):
                    ahead, after = parting[:at], parting[at + 1:]
                    partings += [ahead + after, ahead + [group] + parting[at:], ahead + [group[::-1]] + after]
                    partings += [ahead + [(*group, group[-1])] + after, ahead + [group[1:]] + after]
                    for cut in range(1, len(group)):
                        partings += [ahead + [group[:cut], group[cut:]] + after]
                        partings += [sorted(ahead + [group[:cut], group[cut:]] + after)]
                    for other in after:
                        joined = tuple(sorted(group + other))
                        partings += [sorted([joined] + [kept for kept in parting if kept not in (group, other)])]
                for others in partings:
                    self.assert_is((others, joins), others == parting)

    def test_the_joins_otherwise(self):
        seen = []
        self.pair = (0, 2)
        nowhere, lap = [("a", "sideways")], (("d", "forth"),)
        for at, (first, second, origin, way) in enumerate(self.joins):
            others = [
                (second, first, origin, way), (first, first, origin, way), (first, (second + 1) % 6, origin, way),
                ((first + 1) % 6, second, origin, way), (first, second, None, way), (first, second, origin, None),
                (first, second, None, None), (first, second, origin, nowhere), (first, second, origin, lap),
                (first, second, origin, ()), (first, second, origin, []), (first, second, -1, way),
                (first, second, origin, [("b", "forth")]), (first, second, origin, [("nosuch", "forth")]),
                (6, second, origin, way), (first, -1, origin, way), (first, second, at, way),
            ]
            others += [(first, second, number, way) for number in range(len(self.joins) + 1)]
            others += [(*join[:2], origin, way) for join in self.joins]
            others += [(first, second, origin, join[3]) for join in self.joins]
            if way is not None:
                others += [(first, second, origin, more) for more in (way[1:], way[:-1], way + way, way_back(way))]
                others += [(first, second, origin, list(way)), (first, second, origin, way + lap + way_back(lap))]
            for join in others if way is None else others[:-1]:
                seen.append(self.assert_by_the_words((self.parting, self.joins[:at] + [join] + self.joins[at + 1:])))
            seen.append(self.assert_by_the_words((self.parting, self.joins[:at] + self.joins[at + 1:])))
            for to in range(len(self.joins) + 1):
                more = self.joins[:to] + [self.joins[at]] + self.joins[to:]
                seen.append(self.assert_by_the_words((self.parting, more)))
        seen.append(self.assert_by_the_words((self.parting, self.joins[::-1])))
        seen.append(self.assert_by_the_words((self.parting, [])))
        self.assertIn(True, seen)
        self.assertIn(False, seen)

    def test_joins_more_than_are_needed(self):
        # A join twice, one of a way as a list, one of the empty way: all come of earlier ones.
        first, second, origin, way = self.joins[-1]
        for more in [(first, second, origin, way), (first, second, origin, list(way)),
                     (first, second, len(self.joins) - 1, ()), (*self.joins[0][:2], 0, [])]:
            self.assert_is((self.parting, [*self.joins, more]), True)
        # None comes of itself, though the empty way brings each pair to itself.
        for pair in [self.joins[0][:2], self.joins[1][:2], self.parting[0][:2]]:
            self.assert_is((self.parting, [*self.joins, (*pair, len(self.joins), ())]), False)
            self.assert_is((self.parting, [*self.joins, (*pair, len(self.joins) + 1, ())]), False)
        # The first one may not stand there again, for it comes of none.
        self.assert_is((self.parting, [*self.joins, self.joins[0]]), False)

    def test_a_parting_that_is_linked_but_not_kept(self):
        hall = Hall(4, (), ("a",), [("c", "a", "a", (1, 2, 3, 0), ())])
        stand = ("a", (0, 1, 2, 3))
        self.assertIs(is_together(hall, stand, 0, 2, ([(0, 2), (1,), (3,)], [(0, 2, None, None)])), False)
        lap = (1, 3, 0, (("c", "forth"),))
        self.assertIs(is_together(hall, stand, 0, 2, ([(0, 2), (1, 3)], [(0, 2, None, None), lap])), True)
        # Coarser than is needed it is kept, too, but not linked.
        self.assertIs(is_together(hall, stand, 0, 2, ([(0, 1, 2, 3)], [(0, 2, None, None), lap])), False)

    def test_a_way_that_is_not_home(self):
        hall = Hall(3, (), ("a", "b"), [("c", "a", "b", (1, 2, 0), ()), ("d", "a", "a", (1, 2, 0), ())])
        stand = ("a", (0, 1, 2))
        joins = [(0, 1, None, None), (1, 2, 0, (("d", "forth"),))]
        self.assertIs(is_together(hall, stand, 0, 1, ([(0, 1, 2)], joins)), True)
        joins[1] = (1, 2, 0, (("c", "forth"),))
        self.assertIs(is_together(hall, stand, 0, 1, ([(0, 1, 2)], joins)), False)

    def test_the_first_join(self):
        for first in [(2, 0, None, None), (0, 2, 0, ()), (0, 2, None, ()), (0, 2, 0, None), (0, 2, False, None),
                      (0, 2, None, []), (0, 4, None, None), (0, 0, None, None), (0, 2), (0, 2, None),
                      [0, 2, None, None], (0, 2, None, None, None), (False, 2, None, None), (0, 2, None, False)]:
            self.assert_is((self.parting, [first, *self.joins[1:]]), False)

    def test_of_two_other_places(self):
        for hall, stand in halls_and_stands():
            every = list(combinations(range(hall.places()), 2))
            for pair in every:
                told = together(hall, stand, *pair)
                for other in every:
                    self.assertIs(is_together(hall, stand, *other, told), other == pair)

    def test_of_another_stand(self):
        hall, stand = halls_and_stands()[8]
        for pair in combinations(range(5), 2):
            told = together(hall, stand, *pair)
            for other in list(gone_through(hall, stand))[::3]:
                homes = homes_of(hall, other)
                right = holds_by_the_words(hall, other, homes, pair, told)
                self.assertIs(is_together(hall, other, *pair, told), right)

    def test_lists_tuples_and_truths(self):
        parting, joins = self.parting, self.joins
        for thing in [
            [parting, joins], (parting,), (parting, joins, []), (joins, parting), (tuple(parting), joins),
            (parting, tuple(joins)), ([list(group) for group in parting], joins),
            (parting, [list(join) for join in joins]), parting, joins,
            ([(False, *parting[0][1:]), *parting[1:]], joins), (parting, joins[:1]),
            (parting, [*joins, (0, 2, False, ())]), (parting, [*joins, (0, True, 0, ())]),
            (parting, [*joins, (0, 2, 0)]), (parting, [*joins, (0, 2, 0, (), ())]), (parting, [*joins, [0, 2, 0, ()]]),
            (parting, [*joins, (0, 2, 0, "")]), (parting, [*joins, (0, 2, 0, {})]),
            (parting, [*joins, (0, 2, 0, None)]),
        ]:
            self.assert_is(thing, False)
        self.assert_is((parting, [*joins, (0, 2, 0, ())]), True)

    def test_truths_in_the_parting(self):
        # True stands where 1 would have to.
        hall = Hall(3, (), ("a",), [])
        joins = [(0, 2, None, None)]
        self.assertIs(is_together(hall, ("a", (0, 1, 2)), 0, 2, ([(0, 2), (1,)], joins)), True)
        self.assertIs(is_together(hall, ("a", (0, 1, 2)), 0, 2, ([(0, 2), (True,)], joins)), False)
        self.assertIs(is_together(hall, ("a", (0, 1, 2)), 0, 2, ([(False, 2), (1,)], joins)), False)

    def test_truths_in_the_joins(self):
        hall = Hall(3, (), ("a",), [])
        parting, first = [(0, 1), (2,)], (0, 1, None, None)
        for joins, right in [
            ([first, (0, 1, 0, ())], True), ([first, (0, True, 0, ())], False), ([first, (False, 1, 0, ())], False),
            ([first, (0, 1, False, ())], False), ([(0, True, None, None)], False), ([(False, 1, None, None)], False),
        ]:
            self.assertIs(is_together(hall, ("a", (0, 1, 2)), 0, 1, (parting, joins)), right)

    def test_of_anything(self):
        parting, joins = self.parting, self.joins
        for thing in ODD:
            self.assert_is(thing, False)
            self.assert_is((thing, joins), False)
            self.assert_is((parting, thing), False)
            self.assert_is(([thing, *parting[1:]], joins), False)
            self.assert_is((parting, [thing, *joins[1:]]), False)
            self.assert_is((parting, [*joins, thing]), False)
            for at in range(4):
                join = list(joins[1])
                join[at] = thing
                self.assert_by_the_words((parting, [joins[0], tuple(join), *joins[2:]]))
            self.assert_is((parting, [*joins, (0, 2, 0, [thing])]), False)
            if thing != 0 or thing is False:
                self.assert_is((parting, [*joins, (thing, 2, 0, ())]), False)
                self.assert_is((parting, [*joins, (0, 2, thing, ())]), False)
            if thing not in ((), []):
                self.assert_is((parting, [*joins, (0, 2, 0, thing)]), False)
            self.assert_is(([(thing,), *parting], joins), False)

    def test_ways_that_others_would_tell(self):
        # Any ways home will do: here each loop of the stand, forth and back, from each join told so far.
        ways = [way for loop in loops(self.hall, self.stand) for way in (loop, way_back(loop))]
        joins = [(*self.pair, None, None)]
        for at in range(6):
            for way in ways[:4]:
                moves = made(self.hall, self.stand, way)
                joins.append((moves[joins[at][0]], moves[joins[at][1]], at, way))
        self.assert_by_the_words((self.parting, joins))
        self.assert_is((parting_of(6, [join[:2] for join in joins]), joins),
                       parting_of(6, [join[:2] for join in joins]) == self.parting)

    def test_what_is_asked_is_left_as_it_is(self):
        kept = copy.deepcopy((self.parting, self.joins))
        is_together(self.hall, self.stand, *self.pair, (self.parting, self.joins))
        self.assertEqual((self.parting, self.joins), kept)


if __name__ == "__main__":
    unittest.main()
