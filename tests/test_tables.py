"""Points 2, 23 and 24: tables."""

import copy
import unittest
from itertools import permutations
from math import factorial, prod

from recutkeys.arrangements import behind, is_even, undone
from recutkeys.tables import are_tables, many_in, sifts, tables_of
from tests.samples import ODD, Number, Row, all_made, arrangements_of, assert_same

HOME = (0, 1, 2, 3)
TURN, SWAP = (1, 2, 3, 0), (1, 0, 2, 3)
# By places: some makers of what is known.
KNOWN = [
    (4, [TURN, SWAP]), (4, [TURN]), (4, [(1, 0, 3, 2), (2, 3, 0, 1)]), (4, [SWAP]), (4, []), (4, [HOME]),
    (5, [(1, 2, 0, 3, 4), (0, 1, 3, 4, 2)]), (5, [(1, 2, 3, 4, 0), (0, 4, 3, 2, 1)]),
    (5, [(1, 2, 3, 4, 0), (0, 2, 4, 1, 3)]), (5, [(1, 0, 2, 3, 4), (0, 1, 3, 4, 2)]), (2, [(1, 0)]), (2, []),
    (3, [(1, 2, 0)]),
    (6, [(1, 0, 2, 3, 4, 5), (2, 3, 0, 1, 4, 5), (2, 3, 4, 5, 0, 1)]), (6, [(1, 2, 0, 4, 5, 3), (3, 4, 5, 0, 1, 2)]),
    (6, [(1, 2, 3, 4, 5, 0), (0, 1, 3, 2, 5, 4)]),
]


def orders_of(places):
    """Some orders of all places."""
    rising = tuple(range(places))
    return [rising, rising[::-1], rising[1::2] + rising[::2], list(rising[places // 2:] + rising[:places // 2])]


def turned(places, *ring):
    """The arrangement that brings each place of a ring to the next."""
    one = list(range(places))
    for near, far in zip(ring, ring[1:] + ring[:1]):
        one[near] = far
    return tuple(one)


def ringed(*rings):
    """The arrangement of twelve places with these rings."""
    one = tuple(range(12))
    for ring in rings:
        one = behind(one, turned(12, *ring))
    return one


def various(places, many):
    """So many arrangements, as various as can be told without chance."""
    found = []
    for number in range(many):
        rest, left, one = number * 1000003 + 7, list(range(places)), []
        while left:
            rest, at = divmod(rest * 31 + 11, len(left))
            one.append(left.pop(at))
        found.append(tuple(one))
    return found


def closed_by_the_words(places, tables):
    """Whether tables are closed, told by the document's words alone."""
    for at, (_, rows) in enumerate(tables):
        for row in rows:
            for _, others in tables[at:]:
                for other in others:
                    if not sifts_by_the_words(places, tables[at:], behind(row, other)):
                        return False
    return True


def sifts_by_the_words(places, tables, one):
    """Whether an arrangement sifts, told by the document's words alone."""
    for place, rows in tables:
        fitting = [row for row in rows if row[place] == one[place]]
        if not fitting:
            return False
        one = behind(one, undone(fitting[0]))
    return one == tuple(range(places))


class TablesOfTest(unittest.TestCase):
    def assert_tables(self, order, tables):
        """They are closed, in order, each place has its table, all of the told kinds."""
        assert_same(self, tables, tables)
        self.assertIs(type(tables), list)
        self.assertEqual([place for place, _ in tables], list(order))
        self.assertIs(are_tables(len(order), tables), True)

    def test_just_what_they_make_sifts(self):
        for places, makers in KNOWN:
            whole = all_made(places, makers)
            for order in orders_of(places):
                tables = tables_of(order, makers)
                self.assert_tables(order, tables)
                self.assertEqual(many_in(tables), len(whole))
                for one in arrangements_of(places):
                    self.assertIs(sifts(tables, one), one in whole)

    def test_in_any_order(self):
        for order in permutations(range(5)):
            for makers in ([(1, 2, 3, 4, 0), (0, 4, 3, 2, 1)], [(1, 0, 2, 3, 4), (0, 1, 3, 4, 2)]):
                tables = tables_of(order, makers)
                self.assert_tables(order, tables)
                self.assertEqual(many_in(tables), len(all_made(5, makers)))

    def test_no_makers_twice_and_what_moves_nothing(self):
        nothing = [(place, [HOME]) for place in HOME]
        for makers in ([], (), [HOME], [HOME, HOME], (HOME,)):
            assert_same(self, tables_of(HOME, makers), nothing)
        assert_same(self, tables_of([2, 0, 3, 1], []), [(place, [HOME]) for place in (2, 0, 3, 1)])
        for makers in ([SWAP, SWAP], (HOME, SWAP), [SWAP, HOME, SWAP]):
            tables = tables_of(HOME, makers)
            self.assertEqual(many_in(tables), 2)
            self.assertEqual(sorted(tables[0][1]), [HOME, SWAP])

    def test_twelve_places(self):
        every = [turned(12, *range(12)), turned(12, 0, 1)]
        even = [turned(12, 0, 1, place) for place in range(2, 12)]
        pairs = [turned(12, 0, 1), (2, 3, 0, 1, *range(4, 12)), (*range(2, 12), 0, 1)]
        fours = ringed((2, 6, 10, 7), (3, 9, 4, 5))
        known = [
            (every, factorial(12)), (even, factorial(12) // 2), ([turned(12, *range(12))], 12),
            (pairs, 2 ** 6 * factorial(6)), ([turned(12, *range(7)), turned(12, *range(7, 12))], 35),
            # Mathieu's, of eleven and of twelve places: their tables are long, and far from all that could be.
            ([turned(12, *range(11)), fours], 7920),
            ([turned(12, *range(11)), fours, ringed((0, 11), (1, 10), (2, 5), (3, 7), (4, 8), (6, 9))], 95040),
        ]
        for makers, many in known:
            for order in orders_of(12):
                tables = tables_of(order, makers)
                self.assert_tables(order, tables)
                self.assertEqual(many_in(tables), many)
                one = tuple(range(12))
                for number in range(60):
                    one = behind(one, makers[number * number % len(makers)])
                    self.assertIs(sifts(tables, one), True)
                    self.assertIs(sifts(tables, undone(one)), True)

    def test_what_isnt_one_of_twelve_places_is_refused(self):
        even = tables_of(tuple(range(12)), [turned(12, 0, 1, place) for place in range(2, 12)])
        ring = tables_of(tuple(range(12)), [turned(12, *range(12))])
        pairs = tables_of(
            tuple(range(11, -1, -1)), [turned(12, 0, 1), (2, 3, 0, 1, *range(4, 12)), (*range(2, 12), 0, 1)])
        for one in various(12, 300) + [behind(row, turned(12, 4, 7)) for _, rows in pairs for row in rows]:
            self.assertIs(sifts(even, one), is_even(one))
            self.assertIs(sifts(ring, one), all((one[place] - place - one[0]) % 12 == 0 for place in range(12)))
            self.assertIs(sifts(pairs, one), all(one[place] // 2 == one[place + 1] // 2 for place in range(0, 12, 2)))

    def test_many_makers(self):
        makers = arrangements_of(5)
        self.assertEqual(many_in(tables_of(range(5), makers)), 120)
        evens = tuple(one for one in makers if is_even(one))
        self.assertEqual(many_in(tables_of((4, 2, 0, 1, 3), evens)), 60)


class ManyInTest(unittest.TestCase):
    def test_all_rows_multiplied(self):
        assert_same(self, many_in([]), 1)
        assert_same(self, many_in([(0, [HOME])]), 1)
        assert_same(self, many_in([(2, [(1, 0, 2)] * 3), (0, [(1, 0, 2)] * 2)]), 6)
        for places, makers in KNOWN:
            tables = tables_of(range(places), makers)
            assert_same(self, many_in(tables), prod(len(rows) for _, rows in tables))


class SiftsTest(unittest.TestCase):
    def test_without_tables_only_what_moves_nothing(self):
        for one in arrangements_of(4):
            assert_same(self, sifts([], one), one == HOME)

    def test_tables_of_some_places(self):
        tables = [(3, [HOME, (0, 1, 3, 2)])]
        self.assertIs(are_tables(4, tables), True)
        for one in arrangements_of(4):
            assert_same(self, sifts(tables, one), one in (HOME, (0, 1, 3, 2)))

    def test_in_the_order_of_the_tables(self):
        # What is left behind the first table's row must be what the second one has.
        tables = [(0, [HOME, TURN, (2, 3, 0, 1), (3, 0, 1, 2)]), (1, [HOME])]
        for one in arrangements_of(4):
            assert_same(self, sifts(tables, one), all((one[place] - place - one[0]) % 4 == 0 for place in HOME))


class AreTablesTest(unittest.TestCase):
    RING = [(0, [HOME, TURN, (2, 3, 0, 1), (3, 0, 1, 2)])]

    def assert_tables(self, thing, right, places=4):
        with self.subTest(str(thing)[:200]):
            self.assertIs(are_tables(places, thing), right)

    def test_what_is_one(self):
        self.assert_tables([], True)
        self.assert_tables([(2, [HOME])], True)
        self.assert_tables(self.RING, True)
        self.assert_tables([(0, self.RING[0][1][::-1])], True)
        self.assert_tables([*self.RING, (3, [HOME]), (1, [HOME]), (2, [HOME])], True)
        self.assert_tables([(1, [HOME]), (0, [(0, 1, 3, 2), HOME][1:]), (3, [(0, 1, 3, 2), HOME])], True)

    def test_a_row_out(self):
        rows = self.RING[0][1]
        for at in range(4):
            left = rows[:at] + rows[at + 1:]
            self.assert_tables([(0, left)], False)
        self.assert_tables([(0, [HOME, (2, 3, 0, 1)])], True)
        self.assert_tables([(0, [])], False)
        self.assert_tables([(0, [HOME]), (1, [])], False)

    def test_a_row_out_twice_or_another_one(self):
        for places, makers in KNOWN:
            tables = tables_of(range(places), makers)
            swap = (1, 0, *range(2, places))
            for at, (place, rows) in enumerate(tables):
                for number, row in enumerate(rows):
                    out = rows[:number] + rows[number + 1:]
                    others = [behind(row, swap), undone(row), behind(row, row)]
                    for changed in [out, [*rows, row], *[[*out, other] for other in others]]:
                        thing = [*tables[:at], (place, changed), *tables[at + 1:]]
                        self.assert_tables(thing, tables_by_the_words(places, thing), places)

    def test_each_row_leaves_the_places_ahead(self):
        self.assert_tables([(0, [HOME]), (1, [HOME, (0, 2, 3, 1), (0, 3, 1, 2)])], True)
        self.assert_tables([(2, [HOME]), (1, [HOME, (0, 2, 3, 1), (0, 3, 1, 2)])], False)
        self.assert_tables([(0, [HOME]), (1, [HOME, (1, 2, 3, 0)])], False)
        # All that is multiplied sifts here, and still the second table's row moves the first one's place.
        self.assert_tables([(1, [HOME, SWAP]), (0, [HOME, SWAP])], False)
        self.assert_tables([(1, [HOME, SWAP]), (0, [HOME])], True)

    def test_unlike_places(self):
        self.assert_tables([(0, [HOME]), (0, [HOME])], False)
        self.assert_tables([(0, [HOME]), (1, [HOME]), (2, [HOME]), (3, [HOME]), (1, [HOME])], False)

    def test_to_unlike_places(self):
        self.assert_tables([(0, [HOME, HOME])], False)
        # Both leave place 0, and they are closed but for this.
        self.assert_tables([(0, [HOME, (0, 1, 3, 2)])], False)
        self.assert_tables([(0, [HOME, SWAP, (1, 0, 3, 2)])], False)

    def test_one_moves_nothing(self):
        self.assert_tables([(0, [(0, 2, 1, 3)])], False)
        self.assert_tables([(0, [(0, 2, 1, 3), TURN, (2, 3, 0, 1), (3, 0, 1, 2)])], False)

    def test_closed_with_later_tables(self):
        whole = tables_of(HOME, [TURN, SWAP])
        self.assert_tables(whole, True)
        for at in (1, 2):
            self.assert_tables(whole[:at] + whole[at + 1:], False)
        # The last one moves nothing, so it may be left out.
        self.assert_tables(whole[:3], True)
        self.assert_tables(whole[1:], True)
        self.assert_tables(whole[::-1], False)
        self.assert_tables([(0, [HOME, TURN, (2, 3, 0, 1), (3, 0, 1, 2)]), (1, [HOME, (0, 2, 1, 3)])], False)

    def test_tuples_for_lists_lists_for_tuples(self):
        rows = self.RING[0][1]
        for thing in [
            tuple(self.RING), [list(self.RING[0])], [(0, tuple(rows))], [(0, [list(row) for row in rows])], (), {},
            [(0, {row: 0 for row in rows})], [rows], [0, rows], (0, rows), [(rows, 0)], [(0, rows, 0)], [(0,)], [()],
        ]:
            self.assert_tables(thing, False)

    def test_numbers(self):
        rows = self.RING[0][1]
        for place in [False, True, -1, -4, 4, 10 ** 30, None, "0", "", (0,), [0], {}]:
            self.assert_tables([(place, rows)], False)
            self.assert_tables([(place, [HOME])], False)
        for row in [
            (False, True, 2, 3), (False, 1, 2, 3), (0, True, 2, 3), (1, 2, 3), (1, 2, 3, 0, 4), (1, 1, 2, 3),
            (0, 1, 2, 4), (-1, 0, 1, 2), ("0", 1, 2, 3), (None, 1, 2, 3), "0123", None, 0, (), [], {},
        ]:
            self.assert_tables([(3, [HOME, row])], False)
            self.assert_tables([(3, [row])], False)

    def test_of_so_many_places(self):
        for places in range(2, 13):
            home = tuple(range(places))
            for other in range(2, 13):
                self.assert_tables([(0, [home])], other == places, other)
                self.assert_tables(tables_of(home, [turned(places, *home)]), other == places, other)

    def test_of_anything(self):
        for thing in ODD:
            self.assert_tables(thing, thing == [])
            self.assert_tables([thing], False)
            self.assert_tables([(0, thing)], False)
            self.assert_tables([(0, [HOME, thing])], False)
            self.assert_tables([(thing, [HOME])], repr(thing) in "0123")


def tables_by_the_words(places, thing):
    """Whether lists of arrangements by places are closed tables, told by the document's words alone."""
    for at, (place, rows) in enumerate(thing):
        if len({row[place] for row in rows}) != len(rows) or tuple(range(places)) not in rows:
            return False
        if any(row[ahead] != ahead for row in rows for ahead, _ in thing[:at]):
            return False
    return closed_by_the_words(places, thing)


class PlainKindsTest(unittest.TestCase):
    def test_told_are_just_the_told_kinds(self):
        order = Row([Number(place) for place in (2, 0, 3, 1)])
        makers = Row([Row([Number(place) for place in one]) for one in (TURN, SWAP)])
        assert_same(self, tables_of(order, makers), tables_of((2, 0, 3, 1), [TURN, SWAP]))

    def test_told_lists_are_the_askers_own(self):
        makers = [TURN, SWAP]
        order = [2, 0, 3, 1]
        told = tables_of(order, makers)
        kept = copy.deepcopy(told)
        told[0][1].clear()
        told.pop()
        self.assertEqual(tables_of(order, makers), kept)
        self.assertEqual((order, makers), ([2, 0, 3, 1], [TURN, SWAP]))
        are_tables(4, kept)
        sifts(kept, TURN)
        self.assertEqual(tables_of(order, makers), kept)

    def test_arguments_by_their_names(self):
        tables = tables_of(some=[TURN], order=HOME)
        self.assertTrue(are_tables(thing=tables, places=4))
        self.assertTrue(sifts(one=TURN, tables=tables))
        self.assertEqual(many_in(tables=tables), 4)


if __name__ == "__main__":
    unittest.main()
