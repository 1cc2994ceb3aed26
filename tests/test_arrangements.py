"""Points 2, 10 and 11: arrangements and their texts."""

import unittest

from recutkeys.arrangements import (
    again, behind, how_often, is_arrangement, is_even, read_arrangement, rounds_of, show_arrangement, undone,
)
from recutkeys.errors import NoText
from tests.samples import ODD, Number, Row, Text, arrangements_of, assert_same

STAYS = (0, 1, 2, 3, 4)
TURNS = (3, 0, 4, 1, 2)  # (0 3 1)(2 4)
TWELVE = (1, 2, 3, 4, 0, 6, 7, 5, 9, 8, 11, 10)  # rounds of five, three, two and two


class IsArrangementTest(unittest.TestCase):
    def test_what_is_one(self):
        for places, thing in [(2, (0, 1)), (2, (1, 0)), (5, STAYS), (5, TURNS), (12, TWELVE)]:
            self.assertIs(is_arrangement(places, thing), True)

    def test_all_of_four_places(self):
        for one in arrangements_of(4):
            self.assertIs(is_arrangement(4, one), True)

    def test_what_is_none(self):
        things = [
            [1, 0], (True, False), (0, True), (False, 1), (0, 0), (1, 1), (0, 2), (-1, 0), (1, -1),
            (1,), (), (0, 1, 2), (0, 1, 0), (0, 1, 1), (0, "1"), ("0", "1"), (0, None), ((0,), (1,)), (0, [1]),
            (0, {}), {0: 1, 1: 0}, "01", "(0 1)", 10, None,
        ]
        for thing in things + ODD:
            with self.subTest(thing):
                self.assertIs(is_arrangement(2, thing), False)

    def test_of_twelve_places(self):
        self.assertIs(is_arrangement(12, TWELVE[:11]), False)
        self.assertIs(is_arrangement(12, TWELVE + (12,)), False)
        self.assertIs(is_arrangement(12, TWELVE[:11] + (12,)), False)
        self.assertIs(is_arrangement(12, TWELVE[:11] + (0,)), False)
        self.assertIs(is_arrangement(12, list(TWELVE)), False)
        self.assertIs(is_arrangement(11, TWELVE), False)


class BehindTest(unittest.TestCase):
    def test_first_the_one_then_the_other(self):
        assert_same(self, behind((1, 2, 0), (1, 0, 2)), (0, 2, 1))
        assert_same(self, behind((1, 0, 2), (1, 2, 0)), (2, 1, 0))

    def test_each_place_goes_by_both(self):
        for one in arrangements_of(4):
            for other in arrangements_of(4):
                told = behind(one, other)
                self.assertEqual([told[place] for place in range(4)], [other[one[place]] for place in range(4)])

    def test_undone_brings_all_back(self):
        assert_same(self, undone((1, 2, 0)), (2, 0, 1))
        assert_same(self, undone((1, 0)), (1, 0))
        for one in arrangements_of(4) + [TWELVE]:
            stays = tuple(range(len(one)))
            assert_same(self, behind(one, undone(one)), stays)
            assert_same(self, behind(undone(one), one), stays)


class AgainTest(unittest.TestCase):
    def test_few_times(self):
        for one in arrangements_of(4) + [TWELVE]:
            forth = back = tuple(range(len(one)))
            for times in range(9):
                assert_same(self, again(one, times), forth)
                assert_same(self, again(one, -times), back)
                forth = behind(forth, one)
                back = behind(back, undone(one))

    def test_no_times(self):
        assert_same(self, again(TURNS, 0), STAYS)
        assert_same(self, again((1, 0), 0), (0, 1))

    def test_of_thirty_figures(self):
        times = 10 ** 30 - 1
        assert_same(self, again(TWELVE, times), again(TWELVE, times % 30))
        assert_same(self, again(TWELVE, -times), again(TWELVE, -times % 30))
        assert_same(self, again(TWELVE, 3 * 10 ** 29), tuple(range(12)))
        assert_same(self, again((1, 0), times), (1, 0))


class RoundsTest(unittest.TestCase):
    def test_rounds_begin_with_their_least_place_and_rise(self):
        assert_same(self, rounds_of(TURNS), ((0, 3, 1), (2, 4)))
        assert_same(self, rounds_of(TWELVE), ((0, 1, 2, 3, 4), (5, 6, 7), (8, 9), (10, 11)))
        assert_same(self, rounds_of((0, 4, 3, 2, 1)), ((1, 4), (2, 3)))
        assert_same(self, rounds_of((1, 0)), ((0, 1),))

    def test_places_that_stay_have_none(self):
        assert_same(self, rounds_of(STAYS), ())
        assert_same(self, rounds_of((0, 1)), ())
        assert_same(self, rounds_of((0, 2, 1)), ((1, 2),))

    def test_each_place_is_followed_by_the_one_to_which_it_comes(self):
        for one in arrangements_of(5):
            rounds = rounds_of(one)
            self.assertEqual([ring[0] for ring in rounds], sorted([min(ring) for ring in rounds]))
            follows = {ring[at - 1]: place for ring in rounds for at, place in enumerate(ring)}
            self.assertEqual(follows, {place: end for place, end in enumerate(one) if place != end})

    def test_how_often(self):
        assert_same(self, how_often(STAYS), 1)
        assert_same(self, how_often((0, 1)), 1)
        assert_same(self, how_often((1, 0)), 2)
        assert_same(self, how_often(TURNS), 6)
        assert_same(self, how_often(TWELVE), 30)
        assert_same(self, how_often((1, 2, 3, 0, 5, 4)), 4)
        assert_same(self, how_often((1, 2, 0, 4, 5, 6, 3, 8, 9, 10, 11, 7)), 60)

    def test_how_often_till_nothing_moves(self):
        for one in arrangements_of(5):
            often, moved = 1, one
            while moved != STAYS:
                often, moved = often + 1, behind(moved, one)
            self.assertEqual(how_often(one), often)

    def test_is_even(self):
        for one, even in [(STAYS, True), ((1, 0), False), (TURNS, False), (TWELVE, True), ((1, 2, 0), True),
                          ((1, 2, 3, 0), False), ((1, 0, 3, 2), True)]:
            assert_same(self, is_even(one), even)

    def test_is_even_by_what_stands_crosswise(self):
        for one in arrangements_of(5):
            crossed = [1 for low in range(5) for high in range(low, 5) if one[low] > one[high]]
            self.assertEqual(is_even(one), len(crossed) % 2 == 0)


class TextTest(unittest.TestCase):
    def assert_refused(self, places, text):
        with self.subTest(text):
            with self.assertRaises(NoText) as caught:
                read_arrangement(places, text)
            assert_same(self, caught.exception.row, 0)

    def test_shown(self):
        assert_same(self, show_arrangement(TURNS), "(0 3 1)(2 4)")
        assert_same(self, show_arrangement(STAYS), "()")
        assert_same(self, show_arrangement((1, 0)), "(0 1)")
        assert_same(self, show_arrangement(TWELVE), "(0 1 2 3 4)(5 6 7)(8 9)(10 11)")

    def test_read(self):
        assert_same(self, read_arrangement(5, "(0 3 1)(2 4)"), TURNS)
        assert_same(self, read_arrangement(5, "()"), STAYS)
        assert_same(self, read_arrangement(2, "()"), (0, 1))
        assert_same(self, read_arrangement(12, "(0 1)"), (1, 0, 2, 3, 4, 5, 6, 7, 8, 9, 10, 11))
        assert_same(self, read_arrangement(12, "(0 1 2 3 4)(5 6 7)(8 9)(10 11)"), TWELVE)

    def test_text_and_back(self):
        for one in arrangements_of(5):
            assert_same(self, read_arrangement(5, show_arrangement(one)), one)

    def test_what_is_nearly_one(self):
        texts = [
            "(2 4)(0 3 1)", "(3 1 0)(2 4)", "(0 3 1)(4 2)", "(0 3 1)(2)", "(2)", "(0 3 1)(2 3)", "(0 3 0)", "(0 0)",
            "(00 3 1)(2 4)", "(0 03 1)(2 4)", "(0 +3 1)", "(0 -1)", "(0 5)", "(0 3 1)(2 5)", "(0  3 1)(2 4)",
            "( 0 3 1)(2 4)", "(0 3 1 )(2 4)", " (0 3 1)(2 4)", "(0 3 1)(2 4) ", "(0 3 1) (2 4)", "(0 3 1)(2 4)\n",
            "(0 3 1)(2 4", "0 3 1)(2 4)", "0 3 1", "(0 3 1)()(2 4)", "()(0 1)", "(0 1)()",
            "()()", "( )", "(", ")", ")(",
            "", " ", "x0 1x", "(0 1", "(0 1]", "(0,1)", "(0 one)", "((0 1))", "[0 1]", "(0 1)(2 4)x", "(0 \n1)",
            "(0 " + "9" * 6000 + ")", "0",
        ]
        for text in texts:
            self.assert_refused(5, text)

    def test_of_other_places(self):
        self.assert_refused(2, "(0 2)")
        self.assert_refused(3, "(0 3)")
        self.assert_refused(12, "(0 12)")
        self.assert_refused(11, "(0 1)(9 11)")

    def test_what_is_no_text(self):
        for thing in ODD + [TURNS, ["()"], ("()",), {"()": "()"}]:
            self.assert_refused(5, thing)

    def test_each_sign_changed(self):
        text = "(0 3 1)(2 4)"
        signs = " ()0123459-a\n"
        texts = {text[:at] + sign + text[at + more:] for at in range(13) for sign in signs for more in (0, 1)}
        texts |= {text[:at] + text[at + 1:] for at in range(12)}
        shown = {show_arrangement(one) for one in arrangements_of(5)}
        for changed in sorted(texts - shown):
            self.assert_refused(5, changed)


class PlainKindsTest(unittest.TestCase):
    ONE = Row([Number(1), Number(2), Number(0)])

    def test_told_are_just_the_told_kinds(self):
        assert_same(self, behind(self.ONE, self.ONE), (2, 0, 1))
        assert_same(self, undone(self.ONE), (2, 0, 1))
        assert_same(self, again(self.ONE, Number(1)), (1, 2, 0))
        assert_same(self, rounds_of(self.ONE), ((0, 1, 2),))
        assert_same(self, how_often(self.ONE), 3)
        assert_same(self, is_even(self.ONE), True)
        assert_same(self, show_arrangement(self.ONE), "(0 1 2)")
        assert_same(self, read_arrangement(Number(3), Text("(0 1 2)")), (1, 2, 0))

    def test_arguments_by_their_names(self):
        self.assertTrue(is_arrangement(thing=(1, 0), places=2))
        self.assertEqual(behind(other=(1, 0, 2), one=(1, 2, 0)), (0, 2, 1))
        self.assertEqual(undone(one=(1, 2, 0)), (2, 0, 1))
        self.assertEqual(again(times=2, one=(1, 2, 0)), (2, 0, 1))
        self.assertEqual(rounds_of(one=(1, 0)), ((0, 1),))
        self.assertEqual(how_often(one=(1, 0)), 2)
        self.assertFalse(is_even(one=(1, 0)))
        self.assertEqual(show_arrangement(one=(1, 0)), "(0 1)")
        self.assertEqual(read_arrangement(text="(0 1)", places=2), (1, 0))


if __name__ == "__main__":
    unittest.main()
