"""Points 2 and 37: boards."""

import unittest
from itertools import combinations, permutations
from math import factorial

from recutkeys.boards import board, board_way
from recutkeys.counts import many_stands
from recutkeys.errors import NoMove
from recutkeys.halls import Hall
from recutkeys.halltexts import read_hall, show_hall
from recutkeys.ways import played, show_way
from tests.samples import ODD, Number, Row, assert_same, gone_through

TWELVE = "abcdefghijkl"


def ring(places):
    """Each place beside the next one, the last one beside the first."""
    return [(place, (place + 1) % places) for place in range(places)]


def line(places):
    """Each place beside the next one."""
    return [(place, place + 1) for place in range(places - 1)]


def grid(rows, columns):
    """Places in rows and columns."""
    beside = [(at, at + 1) for at in range(rows * columns) if at % columns < columns - 1]
    return beside + [(at, at + columns) for at in range((rows - 1) * columns)]


def slid(tray, pairs, empty):
    """All trays, what stands on each place, to which one can be slid by hand, and the fewest moves to each."""
    found, edge = {tray: 0}, [tray]
    while edge:
        further = []
        for near in edge:
            for pair in pairs:
                places = list(near)
                if empty in (places[pair[0]], places[pair[1]]):
                    places[pair[0]], places[pair[1]] = places[pair[1]], places[pair[0]]
                    if tuple(places) not in found:
                        found[tuple(places)] = found[near] + 1
                        further.append(tuple(places))
        edge = further
    return found


def some_boards():
    """Boards of two to six places, joined or not, of a ring, a line, a grid, stars, without pairs."""
    yield 2, [(1, 0)]
    yield 2, []
    yield 3, ring(3)
    yield 3, [(0, 2)]
    yield 4, line(4)
    yield 4, grid(2, 2)
    yield 4, [(0, 3), (3, 1), (2, 3)]
    yield 5, [(0, 1), (4, 3), (3, 2), (4, 2)]
    yield 5, ring(5)
    yield 6, grid(2, 3)
    yield 6, [(5, 0), (0, 4), (4, 5), (1, 2)]


class BoardTest(unittest.TestCase):
    def assert_board(self, hall, places, pairs, empty):
        """The hall has what the document says."""
        self.assertIs(type(hall), Hall)
        assert_same(self, [hall.places(), hall.watched(), hall.rooms()], [places, (empty,), ["board"]])
        rising = sorted(sorted(pair) for pair in pairs)
        assert_same(self, hall.doors(), [TWELVE[low] + TWELVE[high] for low, high in rising])
        for low, high in rising:
            cut = list(range(places))
            cut[low], cut[high] = high, low
            told = hall.door(TWELVE[low] + TWELVE[high])
            assert_same(self, told, ("board", "board", tuple(cut), ((empty, low),)))

    def test_of_two_to_twelve_places(self):
        for places in range(2, 13):
            for pairs in (ring(places) if places > 2 else line(2), line(places), [], [(places - 1, 0)]):
                for empty in {0, 1, places - 1}:
                    kept = list(pairs)
                    self.assert_board(board(places, pairs, empty), places, pairs, empty)
                    self.assertEqual(pairs, kept)

    def test_grids(self):
        self.assert_board(board(12, grid(3, 4), 5), 12, grid(3, 4), 5)
        self.assertEqual(len(board(12, grid(3, 4), 5).doors()), 17)
        self.assert_board(board(12, grid(2, 6), 11), 12, grid(2, 6), 11)

    def test_all_pairs_that_a_hall_can_have(self):
        pairs = list(combinations(range(12), 2))[:24]
        self.assert_board(board(12, pairs, 0), 12, pairs, 0)
        self.assertEqual(read_hall(show_hall(board(12, pairs, 0))), board(12, pairs, 0))

    def test_pairs_in_whichever_order(self):
        for places, pairs in some_boards():
            wanted = board(places, pairs, 0)
            turned = [pair[::-1] for pair in pairs]
            for told in (tuple(pairs), pairs[::-1], turned, tuple(turned[::-1]), turned[::2] + pairs[1::2]):
                self.assertEqual(board(places, told, 0), wanted)

    def test_its_text(self):
        self.assertEqual(show_hall(board(3, [(2, 0), (1, 2)], 1)), "\n".join([
            "places 3", "watched 1", "room board", "door ac board board 2 1 0 asks 1 0",
            "door bc board board 0 2 1 asks 1 1",
        ]))

    def test_held_against_sliding_by_hand(self):
        for places, pairs in some_boards():
            for empty in {0, places // 2, places - 1}:
                hall = board(places, pairs, empty)
                for tray in list(permutations(range(places)))[::max(1, factorial(places) // 5)]:
                    trays = slid(tray, pairs, empty)
                    inside = gone_through(hall, ("board", tray))
                    self.assertEqual({key: number for (_, key), number in inside.items()}, trays)
                    self.assertEqual(many_stands(hall, ("board", tray)), len(trays))

    def test_of_great_boards(self):
        for pairs, empty, many in [
            (ring(12), 3, 12 * 11), (line(12), 0, 12), (grid(3, 4), 11, factorial(12) // 2),
            (grid(3, 4) + [(0, 5)], 0, factorial(12)), (grid(2, 6), 6, factorial(12) // 2), ([], 5, 1),
        ]:
            self.assertEqual(many_stands(board(12, pairs, empty), ("board", tuple(range(12)))), many)

    def test_told_are_just_the_told_kinds(self):
        pairs = Row([Row([Number(2), Number(0)]), Row([Number(1), Number(2)])])
        self.assert_board(board(Number(3), pairs, Number(1)), 3, [(2, 0), (1, 2)], 1)

    def test_arguments_by_their_names(self):
        self.assertEqual(board(empty=1, pairs=[(0, 1)], places=3), board(3, [(0, 1)], 1))
        way = board_way(moves=[1, 0], first=0, pairs=[(0, 1)])
        assert_same(self, way, board_way([(0, 1)], 0, [1, 0]))


class BoardWayTest(unittest.TestCase):
    def assert_refused(self, at, pairs, first, moves):
        with self.subTest(str(moves)):
            with self.assertRaises(NoMove) as caught:
                board_way(pairs, first, moves)
            assert_same(self, caught.exception.at, at)

    def test_rows_of_moves(self):
        pairs = [(1, 0), (1, 2), (3, 2)]
        for told in (pairs, tuple(pairs), [pair[::-1] for pair in pairs]):
            assert_same(self, board_way(told, 0, []), ())
            assert_same(self, board_way(told, 3, ()), ())
            assert_same(self, board_way(told, 0, [1]), (("ab", "forth"),))
            assert_same(self, board_way(told, 1, [0]), (("ab", "back"),))
            assert_same(self, board_way(told, 1, (2, 3, 2, 1, 0)), (
                ("bc", "forth"), ("cd", "forth"), ("cd", "back"), ("bc", "back"), ("ab", "back"),
            ))
        self.assertEqual(show_way(board_way([(11, 0), (11, 10)], 0, (11, 10))), "al forth, kl back")

    def test_the_empty_one_goes_there(self):
        for places, pairs in some_boards():
            for empty, first in {(0, 0), (places - 1, 0), (0, places - 1), (1, places // 2)}:
                beside = {place: [sum(pair) - place for pair in pairs if place in pair] for place in range(places)}
                moves, here = [], first
                for number in range(9):
                    if beside[here]:
                        here = beside[here][number % len(beside[here])]
                        moves.append(here)
                key = list(range(places))
                key[first], key[empty] = empty, first
                stands = played(board(places, pairs, empty), ("board", tuple(key)), board_way(pairs, first, moves))
                self.assertEqual([key.index(empty) for _, key in stands], [first, *moves])

    def test_no_neighbour(self):
        pairs = grid(2, 3)
        for first in range(6):
            near = [sum(pair) - first for pair in pairs if first in pair]
            for place in range(-7, 14):
                if place not in near:
                    self.assert_refused(0, pairs, first, [place])
                    self.assert_refused(0, pairs, first, (place, *near))
                    self.assert_refused(2, pairs, first, [near[0], first, place, first, place])
        self.assert_refused(0, [], 1, [0])
        self.assert_refused(0, [(0, 1)], 2, (0,))
        self.assert_refused(3, [(0, 1)], 0, (1, 0, 1, 1, 0))

    def test_the_first_such_move(self):
        self.assert_refused(1, line(4), 0, [1, 3, 2, 0])
        self.assert_refused(2, ring(4), 3, [0, 1, 3, 9, None])
        # The place is a neighbour of where the empty one was, but not of where it is then.
        self.assert_refused(1, line(4), 1, [2, 0])

    def test_of_anything(self):
        for thing in ODD + [Hall, (1,), [1], "1", "b", 12, 1 << 70]:
            if thing not in (0, 1) or isinstance(thing, bool):
                self.assert_refused(0, [(0, 1)], 0, [thing])
                self.assert_refused(2, [(0, 1)], 0, [1, 0, thing, 1])
                self.assert_refused(1, [(0, 1), (1, 2)], 0, (1, thing))
        # True is no place, though it is where 1 would have to be.
        self.assert_refused(0, [(0, 1)], 0, [True])
        self.assert_refused(0, [(0, 1)], 1, [False])

    def test_told_are_just_the_told_kinds(self):
        pairs = Row([Row([Number(2), Number(0)]), Row([Number(1), Number(2)])])
        way = board_way(pairs, Number(0), Row([Number(2), Number(1)]))
        assert_same(self, way, (("ac", "forth"), ("bc", "back")))


if __name__ == "__main__":
    unittest.main()
