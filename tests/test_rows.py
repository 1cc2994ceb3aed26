"""Points 2, 17, 18 and 19: ways in rows."""

import copy
import unittest
from time import process_time

from recutkeys.arrangements import again, behind, undone
from recutkeys.bounds import MOST_ROWS
from recutkeys.errors import NoWay, TooMany
from recutkeys.halls import Hall
from recutkeys.rows import comes_to, gone, is_rows, many_steps, unrolled
from recutkeys.stands import brings, split
from recutkeys.steps import done, steps
from recutkeys.ways import made, played, way_back
from tests.samples import (
    ODD, Number, Row, Text, assert_same, gone_through, halls_and_stands, halls_of_twelve, nested, small_hall, spots_of,
    stands_of,
)

STEP, OTHER = ("arch", "forth"), ("gate", "back")
START = ("cave", (0, 1, 4, 3, 2))


def doubled(row, times):
    """A row, and then rows each of which has the one ahead twice."""
    return [row, *[[(number, "forth"), (number, "forth")] for number in range(times)]]


def chained(row, times):
    """A row, and then rows each of which is just the one ahead."""
    return [row, *[[(number, "forth")] for number in range(times)]]


def unrolled_straight(rows, number, side):
    """All steps of a row, told by the document's words alone."""
    way = ()
    for head, turned in rows[number]:
        way += ((head, turned),) if isinstance(head, str) else unrolled_straight(rows, head, turned)
    return way if side == "forth" else way_back(way)


def rows_along(hall, stand, many):
    """A way in rows that can be gone, as various as can be told without chance."""
    rows, row = [], []
    for number in range(many):
        doable = steps(hall, stand)
        if not doable:
            break
        step = doable[(number * number + 1) % len(doable)]
        row, stand = [*row, step], done(hall, stand, step)
        if number % 3 == 2:
            rows.append(row)
            # There and back and there again.
            last = len(rows) - 1
            row = [(last, "forth"), (last, "back"), (last, "forth")]
    return [*rows, row]


class IsRowsTest(unittest.TestCase):
    def assert_rows(self, thing, right):
        with self.subTest(str(thing)[:200]):
            self.assertIs(is_rows(thing), right)

    def test_what_is_one(self):
        for rows in [
            [[]], [[STEP]], [[], []], [[STEP, OTHER], [(0, "back")]], [[STEP], [(0, "forth"), OTHER, (0, "back")]],
            [[], [(0, "forth")], [(0, "forth"), (1, "back"), STEP]], [[("abcdefgh", "forth")]], [[("a", "back")]],
            [[("forth", "forth"), ("back", "back")]], [[STEP]] * 400, [[STEP] * 3000, [(0, "forth")] * 3000],
        ]:
            self.assert_rows(rows, True)

    def test_one_to_four_hundred_rows(self):
        self.assert_rows([], False)
        for many in (1, 2, 399, MOST_ROWS):
            self.assert_rows([[]] * many, True)
            self.assert_rows(doubled([STEP], many - 1), True)
        for many in (MOST_ROWS + 1, 402, 1000):
            self.assert_rows([[]] * many, False)
            self.assert_rows(doubled([STEP], many - 1), False)

    def test_parts_of_earlier_rows_alone(self):
        self.assert_rows([[(0, "forth")]], False)
        self.assert_rows([[STEP], [(1, "forth")]], False)
        self.assert_rows([[(1, "forth")], [STEP]], False)
        self.assert_rows([[STEP], [(2, "back")], [STEP]], False)
        self.assert_rows([[STEP], [(-1, "forth")]], False)
        self.assert_rows([[STEP], [(10 ** 30, "forth")]], False)
        self.assert_rows([[STEP], [STEP], [(0, "forth"), (1, "back")]], True)
        self.assert_rows([[STEP], [(0, "forth"), (1, "back")], [STEP]], False)

    def test_a_truth_is_no_number(self):
        self.assert_rows([[STEP], [(False, "forth")]], False)
        self.assert_rows([[STEP], [STEP], [(True, "forth")]], False)

    def test_lists_of_lists_of_tuples(self):
        for thing in [
            ([STEP],), [(STEP,)], [[list(STEP)]], [[STEP], [[0, "forth"]]], ([],), [()], ((),), [STEP], STEP,
            [[STEP], STEP], [{}], [{STEP: 0}], {0: [STEP]}, [[STEP], None], [None], [""], ["arch"], "", [[[STEP]]],
            [[STEP], 0],
        ]:
            self.assert_rows(thing, False)

    def test_two_words_alone(self):
        for word in ["sideways", "", "Forth", "forth ", "back, forth", None, True, 0, (), ("forth",), ["forth"], {}]:
            self.assert_rows([[("arch", word)]], False)
            self.assert_rows([[STEP], [(0, word)]], False)
        for item in [
            ("arch",), ("arch", "forth", "back"), (), (0,), (0, "forth", "back"), ("forth", "arch"), ("forth", 0),
        ]:
            self.assert_rows([[STEP], [item]], False)

    def test_names(self):
        for name in [
            "", "abcdefghi", "Arch", "arch ", "ar ch", "arch1", "1", "0", None, ("arch",), ["arch"], {"arch": 0},
        ]:
            self.assert_rows([[(name, "forth")]], False)
            self.assert_rows([[STEP], [(name, "forth"), (0, "back")]], False)

    def test_of_anything(self):
        for thing in ODD:
            self.assert_rows(thing, False)
            self.assert_rows([[STEP], [thing]], False)
            self.assert_rows([[STEP], [(thing, "sideways")]], False)
            # An empty list is a row.
            self.assert_rows([[STEP], thing], thing == [])
        for kind in (list, tuple):
            for times in range(1, 9):
                self.assert_rows(nested(kind, times), kind is list and times == 2)


class ManyStepsTest(unittest.TestCase):
    def test_how_many(self):
        assert_same(self, many_steps([[]]), 0)
        assert_same(self, many_steps([[STEP, OTHER, STEP]]), 3)
        assert_same(self, many_steps([[STEP, STEP], [OTHER, (0, "back"), (0, "forth"), STEP]]), 6)
        assert_same(self, many_steps([[STEP, STEP], [(0, "forth")], []]), 0)
        assert_same(self, many_steps([[], [(0, "back")] * 5, [(1, "forth"), STEP]]), 1)

    def test_the_last_row_is_the_way(self):
        assert_same(self, many_steps([[STEP] * 9, [OTHER]]), 1)
        assert_same(self, many_steps(doubled([STEP], 300) + [[OTHER, (2, "back")]]), 5)

    def test_of_any_size(self):
        assert_same(self, many_steps(doubled([STEP], 120)), 2 ** 120)
        assert_same(self, many_steps(doubled([STEP, OTHER, STEP], 399)), 3 * 2 ** 399)
        rows = [[STEP], *[[(number, "back")] * 10 for number in range(36)]]
        assert_same(self, many_steps(rows), 10 ** 36)


class UnrolledTest(unittest.TestCase):
    def test_the_way_of_all_its_steps(self):
        assert_same(self, unrolled([[STEP, OTHER]]), (STEP, OTHER))
        rows = [[STEP, OTHER], [(0, "forth"), ("lift", "back"), (0, "back")], [(1, "back"), STEP, (1, "forth")]]
        there = (STEP, OTHER, ("lift", "back"), ("gate", "forth"), ("arch", "back"))
        assert_same(self, unrolled(rows[:2]), there)
        assert_same(self, unrolled(rows), way_back(there) + (STEP,) + there)

    def test_without_steps(self):
        assert_same(self, unrolled([[]]), ())
        assert_same(self, unrolled([[STEP], []]), ())
        assert_same(self, unrolled([[], [(0, "forth"), (0, "back")]]), ())

    def test_rows_that_are_not_used(self):
        assert_same(self, unrolled([[OTHER] * 5000, [STEP], [(0, "forth")], [(1, "forth")]]), (STEP,))
        assert_same(self, unrolled(doubled([STEP], 200) + [[OTHER, (1, "back")]]), (OTHER, *way_back([STEP, STEP])))

    def test_against_the_words(self):
        rows = [
            [STEP], [], [(0, "back"), OTHER, (1, "forth")], [(2, "back")], [(3, "back"), (3, "forth"), (1, "back")],
            [(4, "back"), STEP, (2, "forth")], [(5, "back")], [(6, "back")], [(7, "forth"), (5, "back"), STEP],
        ]
        for number in range(len(rows)):
            told = unrolled(rows[:number + 1])
            assert_same(self, told, unrolled_straight(rows, number, "forth"))
            self.assertEqual(len(told), many_steps(rows[:number + 1]))

    def test_parts_without_steps_are_passed_by(self):
        empty = doubled([], 398)
        assert_same(self, unrolled(empty), ())
        assert_same(self, unrolled([*empty, [(398, "back"), STEP, (398, "forth")]]), (STEP,))
        assert_same(self, unrolled([*empty[:-1], [STEP, (397, "forth")] * 1000], most=1000), (STEP,) * 1000)
        assert_same(self, unrolled([[], [(0, "forth")] * 3000, [(1, "forth")] * 3000, [(2, "back"), OTHER]]), (OTHER,))

    def test_parts_many_within_one_another(self):
        assert_same(self, unrolled(chained([STEP], 399)), (STEP,))
        back = [[STEP, OTHER], *[[(number, "back")] for number in range(399)]]
        assert_same(self, unrolled(back), way_back((STEP, OTHER)))
        rows = [*chained([STEP, OTHER], 398), [(398, "back")] * 1000]
        assert_same(self, unrolled(rows), way_back((STEP, OTHER)) * 1000)

    def test_many_steps_each_within_many_rows(self):
        began = process_time()
        told = unrolled([*chained([STEP], 398), [(398, "back")] * 200000], most=200000)
        self.assertLess(process_time() - began, 5)
        self.assertEqual(told, (("arch", "back"),) * 200000)

    def assert_too_many(self, most, call):
        with self.assertRaises(TooMany) as caught:
            call()
        assert_same(self, caught.exception.most, most)

    def test_too_many(self):
        rows = [[STEP], *[[(number, "back")] * 10 for number in range(36)]]
        self.assert_too_many(2000, lambda: unrolled(rows))
        for most in (0, 1, 2000, 10 ** 36 - 1, -1, -(10 ** 40)):
            self.assert_too_many(most, lambda: unrolled(rows, most=most))

    def test_just_as_many_are_not_too_many(self):
        self.assertEqual(len(unrolled([[STEP] * 2000])), 2000)
        self.assert_too_many(2000, lambda: unrolled([[STEP] * 2001]))
        self.assertEqual(len(unrolled([[STEP] * 2001], most=2001)), 2001)
        for many in range(4):
            self.assertEqual(len(unrolled([[STEP] * many], most=many)), many)
            self.assert_too_many(many - 1, lambda: unrolled([[STEP] * many], most=many - 1))
        self.assertEqual(len(unrolled(doubled([STEP], 12), most=4096)), 4096)
        self.assert_too_many(4095, lambda: unrolled(doubled([STEP], 12), most=4095))

    def test_most_by_its_name_alone(self):
        with self.assertRaises(TypeError):
            unrolled([[STEP]], 5)


class GoneTest(unittest.TestCase):
    def test_as_its_steps_go(self):
        for hall, stand in halls_and_stands():
            rows = rows_along(hall, stand, 18)
            self.assertTrue(is_rows(rows))
            way = unrolled(rows, most=10 ** 6)
            last = played(hall, stand, way)[-1]
            assert_same(self, gone(hall, split(hall, stand), rows), (split(hall, last), made(hall, stand, way)))
            for other in stands_of(hall):
                self.assertIs(comes_to(hall, stand, rows, other), other == last)

    def test_back(self):
        for hall, stand in halls_and_stands():
            rows = rows_along(hall, stand, 18)
            end, moves = gone(hall, split(hall, stand), rows)
            rows.append([(len(rows) - 1, "back")])
            assert_same(self, gone(hall, end, rows), (split(hall, stand), undone(moves)))

    def test_the_empty_way(self):
        home = (0, 1, 2, 3, 4)
        for rows in ([[]], [[STEP], []], [[], [(0, "back")]], doubled([], 399), [[("nosuch", "forth")], []]):
            for spot in spots_of(small_hall()):
                assert_same(self, gone(small_hall(), spot, rows), (spot, home))
            for other in stands_of(small_hall()):
                self.assertIs(comes_to(small_hall(), START, rows, other), other == START)

    def test_a_way_of_many_steps(self):
        turn = (1, 2, 3, 4, 0)
        for times in (60, 399):
            told = gone(small_hall(), ("cave", (4, 2)), doubled([STEP], times))
            end = again(turn, 2 ** times % 5)
            assert_same(self, told, (("cave", (end[4], end[2])), end))

    def test_read_from_each_split_room_where_it_is_used(self):
        # The gate is asked only where mark 2 stands on place 0; the arch carries it there.
        rows = [[STEP], [("gate", "forth"), ("gate", "back")], [(0, "forth"), (1, "forth"), (0, "back")]]
        assert_same(self, gone(small_hall(), ("cave", (4, 2)), rows), (("cave", (4, 2)), (0, 1, 2, 3, 4)))
        with self.assertRaises(NoWay) as caught:
            gone(small_hall(), ("cave", (4, 2)), [*rows, [(2, "forth"), (1, "forth")]])
        assert_same(self, (caught.exception.at, caught.exception.why), (4, "asked"))

    def test_comes_to_holds_the_key_against_what_it_made(self):
        hall, stand = Hall(3, (), ("a", "b"), [("c", "a", "b", (1, 2, 0), ())]), ("a", (0, 1, 2))
        rows = [[("c", "forth")]]
        assert_same(self, comes_to(hall, stand, rows, ("b", (2, 0, 1))), True)
        for other in [("a", (2, 0, 1)), ("b", (1, 2, 0)), ("b", (0, 1, 2)), stand]:
            assert_same(self, comes_to(hall, stand, rows, other), False)
        # It can't be gone at all.
        assert_same(self, comes_to(hall, ("b", (2, 0, 1)), rows, ("b", (2, 0, 1))), False)

    def test_long_rows(self):
        rows = [[STEP] * 5000, [(0, "forth"), (0, "back")] * 2000, [(1, "forth")] * 2000, [(2, "forth"), STEP]]
        assert_same(self, gone(small_hall(), ("cave", (0, 3)), rows), (("cave", (1, 4)), (1, 2, 3, 4, 0)))

    def test_great_halls(self):
        for hall, stand in halls_of_twelve():
            rows = rows_along(hall, stand, 600)
            end, moves = gone(hall, split(hall, stand), rows)
            self.assertGreater(many_steps(rows), 10 ** 36)
            last = (end[0], tuple(stand[1][place] for place in undone(moves)))
            self.assertIs(comes_to(hall, stand, rows, last), True)
            self.assertEqual(split(hall, last), end)


class NoWayTest(unittest.TestCase):
    def assert_refused(self, rows, at, why, spot=("cave", (4, 2))):
        with self.assertRaises(NoWay) as caught:
            gone(small_hall(), spot, rows)
        assert_same(self, [caught.exception.at, caught.exception.why], [at, why])

    def test_each_reason(self):
        self.assert_refused([[STEP, ("nosuch", "forth")]], 1, "door")
        self.assert_refused([[STEP, ("gate", "forth"), STEP]], 2, "room")
        self.assert_refused([[STEP, STEP, ("gate", "forth")]], 2, "asked")
        self.assert_refused([[("nosuch", "back")], [(0, "forth"), ("gate", "forth")]], 0, "door")
        self.assert_refused([[("abcdefgh", "back")], [STEP, (0, "back")]], 1, "door")

    def test_as_its_steps_are_refused(self):
        rows = [
            [STEP, ("gate", "forth")], [(0, "forth"), ("lift", "back"), (0, "back")],
            [STEP, (0, "back"), (1, "forth")], [(2, "back"), (1, "back"), (0, "forth")],
        ]
        for number in range(len(rows)):
            way = [*unrolled(rows[:number + 1]), ("nosuch", "forth")]
            for stand in stands_of(small_hall()):
                with self.assertRaises(NoWay) as wanted:
                    played(small_hall(), stand, way)
                told = wanted.exception
                row = [(number, "forth"), ("nosuch", "forth")]
                self.assert_refused([*rows, row], told.at, told.why, split(small_hall(), stand))

    def test_in_the_middle_of_sixty_rows_twice(self):
        doubles = doubled([STEP], 60)
        rows = [*doubles, [(60, "forth"), ("nosuch", "forth"), (60, "forth")]]
        self.assert_refused(rows, 2 ** 60, "door")
        rows = [*doubles, [(60, "back"), (59, "forth"), ("lift", "back"), (60, "forth")], [STEP, (61, "forth")]]
        self.assert_refused(rows, 1 + 2 ** 60 + 2 ** 59, "asked")
        # Mark 2 stands on place 4; turned by one more than so many fives, as 2 ** 60 is, it stands where the gate asks.
        rows = [*doubles, [(60, "forth"), ("gate", "forth")]]
        assert_same(self, gone(small_hall(), ("cave", (4, 2)), rows)[0], ("yard", (1, 3)))
        self.assert_refused([*doubles, [(60, "forth"), (60, "forth"), ("gate", "forth"), STEP]], 2 ** 61, "asked")

    def test_once_in_so_many_steps(self):
        # Fails only where it is used the last time: five turns are none, one turn more closes the gate.
        peek = [("gate", "forth"), ("gate", "back")]
        rows = [[STEP] * 5, [(0, "forth"), *peek]]
        rows.extend([[(number + 1, "forth"), (number + 1, "forth")] for number in range(60)])
        rows.append([(61, "forth"), STEP, (1, "forth")])
        self.assert_refused(rows, 7 * 2 ** 60 + 1 + 5, "asked", ("cave", (0, 2)))

    def test_behind_four_hundred_rows_within_one_another(self):
        self.assert_refused(chained([STEP, ("nosuch", "forth")], 399), 1, "door")
        rows = [[("nosuch", "forth")], *[[STEP, (number, "forth"), STEP] for number in range(399)]]
        self.assert_refused(rows, 399, "door")
        rows = [[("gate", "forth")], *[[STEP, (number, "back"), STEP] for number in range(399)]]
        # Gone back, the last step of a row is the first: as many are ahead as rows are about it.
        self.assert_refused(rows, 399, "room")

    def test_does_not_come_to_anything(self):
        rows = [[STEP, ("nosuch", "forth")]]
        for other in stands_of(small_hall()):
            self.assertIs(comes_to(small_hall(), START, rows, other), False)


class PlainKindsTest(unittest.TestCase):
    def test_told_are_just_the_told_kinds(self):
        hall = small_hall()
        rows = [[], [Row([Text("arch"), Text("forth")])], [Row([Number(1), Text("forth")])]]
        assert_same(self, unrolled(rows), (STEP,))
        spot = Row([Text("cave"), Row([Number(4), Number(2)])])
        assert_same(self, gone(hall, spot, [[]]), (("cave", (4, 2)), (0, 1, 2, 3, 4)))
        assert_same(self, gone(hall, spot, rows), (("cave", (0, 3)), (1, 2, 3, 4, 0)))

    def test_nothing_handed_in_is_changed(self):
        rows = [[STEP], [(0, "back"), OTHER], [(1, "back"), (0, "forth")], [("nosuch", "forth")], [(3, "back")]]
        kept = copy.deepcopy(rows)
        is_rows(rows)
        many_steps(rows)
        unrolled(rows)
        for number in range(1, 6):
            comes_to(small_hall(), START, rows[:number], START)
        self.assertEqual(rows, kept)

    def test_arguments_by_their_names(self):
        hall, rows = small_hall(), [[STEP]]
        self.assertTrue(is_rows(thing=rows))
        self.assertEqual(many_steps(rows=rows), 1)
        self.assertEqual(unrolled(most=1, rows=rows), (STEP,))
        self.assertEqual(gone(rows=rows, spot=("cave", (4, 2)), hall=hall), (("cave", (0, 3)), (1, 2, 3, 4, 0)))
        other = ("cave", (2, 0, 1, 4, 3))
        self.assertTrue(comes_to(other=other, rows=rows, stand=START, hall=hall))
        self.assertEqual(brings(START[1], other[1]), behind((1, 2, 3, 4, 0), (0, 1, 2, 3, 4)))
        self.assertIn(other, gone_through(hall, START))


if __name__ == "__main__":
    unittest.main()
