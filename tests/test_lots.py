"""Points 2, 4 and 36: lots."""

import copy
import unittest
from itertools import combinations, product
from time import process_time

from recutkeys.bounds import MOST_LOTS
from recutkeys.changes import unasked, walled
from recutkeys.fences import is_fence
from recutkeys.halls import Hall
from recutkeys.lots import covers, lot_holds, lot_paper, lots
from recutkeys.rows import comes_to, is_rows
from recutkeys.tables import tables_of
from recutkeys.telling import way_to
from tests.samples import (
    ODD, Number, Row, Text, assert_same, gone_through, halls_and_stands, halls_of_twelve, letters, small_hall,
    stands_of,
)

START = ("cave", (0, 1, 4, 3, 2))
CHANGES = {"ask": unasked, "wall": walled}


def names_of(hall, word):
    """The doors in question."""
    return [name for name in hall.doors() if word == "wall" or hall.door(name)[3] != ()]


def lots_of(names):
    """All lots of names, the empty one, too."""
    return [lot for many in range(len(names) + 1) for lot in combinations(sorted(names), many)]


def hall_of(hall, word, lot):
    """The hall of a lot."""
    for name in lot:
        hall = CHANGES[word](hall, name)
    return hall


def by_lots(hall, stand, word):
    """For each lot all stands that can be come to in its hall, gone through one by one."""
    return {lot: set(gone_through(hall_of(hall, word, lot), stand)) for lot in lots_of(names_of(hall, word))}


def least_and_greatest(does):
    """Both lists, told by the words, of a dict that tells of each lot whether it does."""
    least = [lot for lot in does if does[lot] and not any(does[other] for other in does if set(other) < set(lot))]
    greatest = [
        lot for lot in does if not does[lot] and all(does[other] for other in does if set(other) > set(lot))
    ]
    return (sorted(least), sorted(greatest))


def six_asks():
    """A hall with six doors that ask and one that doesn't, and a stand."""
    doors = [("free", "a", "a", (1, 2, 3, 0), [])]
    for number, (one, other, ask) in enumerate([
        ("a", "b", (0, 2)), ("b", "c", (3, 1)), ("a", "d", (3, 3)), ("d", "c", (0, 0)), ("b", "d", (0, 0)),
        ("c", "e", (3, 0)),
    ]):
        doors.append((letters(number, "s"), one, other, (0, 1, 3, 2) if number % 2 else (0, 1, 2, 3), [ask]))
    return Hall(4, (0, 3), list("abcdef"), doors), ("a", (0, 1, 2, 3))


def six_walls():
    """A hall with six doors, none of which asks, and a stand."""
    doors = [
        ("ab", "a", "b", (1, 0, 2, 3), []), ("ac", "a", "c", (0, 1, 2, 3), []), ("bc", "b", "c", (0, 2, 1, 3), []),
        ("bd", "b", "d", (0, 1, 3, 2), []), ("cd", "c", "d", (0, 1, 2, 3), []), ("dd", "d", "d", (1, 0, 3, 2), []),
    ]
    return Hall(4, (), list("abcde"), doors), ("a", (0, 1, 2, 3))


def some_questions():
    """Small halls, each with a stand and a word, with no more doors in question than may be."""
    every = [(*some, word) for some in halls_and_stands() + [six_asks(), six_walls()] for word in ("ask", "wall")]
    return [(hall, stand, word) for hall, stand, word in every if len(names_of(hall, word)) <= MOST_LOTS]


class LotsTest(unittest.TestCase):
    def assert_lots(self, hall, stand, other, word, does):
        """What is told of lots is as each lot does; both lists."""
        told = lots(hall, stand, other, word)
        with self.subTest(other=other, word=word):
            assert_same(self, told, least_and_greatest(does))
            self.assertEqual([type(part) for part in told], [list, list])
        return told

    def test_held_against_going_through_for_each_lot(self):
        seen = set()
        for hall, stand, word in some_questions():
            inside = by_lots(hall, stand, word)
            others = stands_of(hall)
            for other in others[::max(1, len(others) // 12)] + [stand]:
                does = {lot: (other in inside[lot]) == (word == "ask") for lot in inside}
                least, greatest = self.assert_lots(hall, stand, other, word, does)
                seen.add((word, len(least), len(greatest)))
                self.assertIs(covers(names_of(hall, word), least, greatest), True)
        self.assertLessEqual({("ask", 1, 0), ("ask", 0, 1), ("wall", 1, 0), ("wall", 0, 1)}, seen)
        self.assertGreater(max(least for _, least, _ in seen), 2)

    def test_no_door_that_asks(self):
        hall, stand = halls_and_stands()[5]
        inside = gone_through(hall, stand)
        for other in stands_of(hall)[::37]:
            assert_same(self, lots(hall, stand, other, "ask"), ([()], []) if other in inside else ([], [()]))
            does, _ = lot_paper(hall, stand, other, "ask", ())
            self.assertEqual(does, "does" if other in inside else "not")

    def test_no_door(self):
        hall = Hall(3, (0,), ("a", "b"), [])
        stand, other = ("a", (2, 0, 1)), ("b", (2, 0, 1))
        assert_same(self, lots(hall, stand, stand, "ask"), ([()], []))
        assert_same(self, lots(hall, stand, stand, "wall"), ([], [()]))
        assert_same(self, lots(hall, stand, other, "ask"), ([], [()]))
        assert_same(self, lots(hall, stand, other, "wall"), ([()], []))

    def test_a_stand_of_itself(self):
        for hall, stand, word in some_questions():
            told = ([()], []) if word == "ask" else ([], [tuple(hall.doors())])
            assert_same(self, lots(hall, stand, stand, word), told)

    def test_a_stand_that_no_lot_lets_be_come_to(self):
        hall, stand = six_asks()
        other = ("f", (0, 1, 2, 3))
        assert_same(self, lots(hall, stand, other, "ask"), ([], [("saa", "sab", "sac", "sad", "sae", "saf")]))
        hall, stand = six_walls()
        assert_same(self, lots(hall, stand, ("e", stand[1]), "wall"), ([()], []))

    def test_six_doors(self):
        self.assertEqual(MOST_LOTS, 6)
        hall, stand = six_asks()
        self.assertEqual(len(names_of(hall, "ask")), 6)
        inside = by_lots(hall, stand, "ask")
        for other in stands_of(hall)[::7]:
            self.assert_lots(hall, stand, other, "ask", {lot: other in inside[lot] for lot in inside})

    def test_a_grid_by_hand(self):
        # From a to d by b or by c: walled must be one door of each of the ways.
        doors = [("ab", "a", "b"), ("ac", "a", "c"), ("bd", "b", "d"), ("cd", "c", "d")]
        hall = Hall(2, (0,), list("abcd"), [(*door, (0, 1), ()) for door in doors])
        stand, other = ("a", (0, 1)), ("d", (0, 1))
        assert_same(self, lots(hall, stand, other, "wall"), (
            [("ab", "ac"), ("ab", "cd"), ("ac", "bd"), ("bd", "cd")], [("ab", "bd"), ("ac", "cd")],
        ))
        # That never open: unasked must be both doors of one of the ways.
        hall = Hall(2, (0,), list("abcd"), [(*door, (0, 1), [(0, 1)]) for door in doors])
        assert_same(self, lots(hall, stand, other, "ask"), (
            [("ab", "bd"), ("ac", "cd")], [("ab", "ac"), ("ab", "cd"), ("ac", "bd"), ("bd", "cd")],
        ))

    def test_rising_as_python_orders_tuples(self):
        # A short lot goes ahead of a longer one that begins like it, but behind one that begins lower.
        doors = [("a", "x", "y"), ("b", "y", "z"), ("c", "x", "z")]
        hall = Hall(2, (0,), list("xyz"), [(*door, (0, 1), [(0, 1)]) for door in doors])
        assert_same(self, lots(hall, ("x", (0, 1)), ("z", (0, 1)), "ask"), ([("a", "b"), ("c",)], [("a",), ("b",)]))

    def test_great_halls(self):
        hall, stand = halls_of_twelve()[1]
        doors = [(name, *hall.door(name)) for name in hall.doors()]
        six = [name for name in hall.doors() if hall.door(name)[3]][:MOST_LOTS]
        hall = Hall(12, (3, 7), hall.rooms(), [door if door[0] in six else (*door[:4], ()) for door in doors])
        began = process_time()
        for other in [(hall.rooms()[-1], stand[1][::-1]), (hall.rooms()[3], (1, 0, *stand[1][2:]))]:
            least, greatest = lots(hall, stand, other, "ask")
            self.assertIs(covers(six, least, greatest), True)
            for lot in least + greatest:
                paper = lot_paper(hall, stand, other, "ask", lot)
                self.assertEqual(paper[0], "does" if lot in least else "not")
                self.assertIs(lot_holds(hall, stand, other, "ask", lot, paper), True)
        self.assertLess(process_time() - began, 20)

    def test_told_lists_are_the_askers_own(self):
        hall, stand = six_walls()
        kept = copy.deepcopy(lots(hall, stand, ("d", stand[1]), "wall"))
        self.assertNotEqual(kept, ([], []))
        for told in lots(hall, stand, ("d", stand[1]), "wall"):
            told.clear()
        assert_same(self, lots(hall, stand, ("d", stand[1]), "wall"), kept)

    def test_what_is_asked_is_left_as_it_is(self):
        hall, stand = six_walls()
        lots(hall, stand, ("d", stand[1]), "wall")
        lot_paper(hall, stand, ("d", stand[1]), "wall", ("ab", "cd"))
        self.assertEqual(hall, six_walls()[0])


class PaperTest(unittest.TestCase):
    def test_each_lots_own(self):
        seen = set()
        for hall, stand, word in some_questions():
            inside = by_lots(hall, stand, word)
            others = stands_of(hall)
            for other in others[::max(1, len(others) // 7)] + [stand]:
                for lot in inside:
                    does = (other in inside[lot]) == (word == "ask")
                    seen.add((word, does, self.assert_own(hall, stand, other, word, lot, does)))
        self.assertEqual(seen, {("ask", True, "way"), ("ask", False, "fence"), ("wall", True, "fence"),
                                ("wall", False, "way")})

    def assert_own(self, hall, stand, other, word, lot, does):
        """The lot's paper says what it does and holds; not so with the other word. What kind it is."""
        told = lot_paper(hall, stand, other, word, lot)
        assert_same(self, told, ("does" if does else "not", told[1]))
        self.assertIs(lot_holds(hall, stand, other, word, lot, told), True)
        self.assertIs(lot_holds(hall, stand, other, word, lot, ("not" if does else "does", told[1])), False)
        own = hall_of(hall, word, lot)
        if is_rows(told[1]):
            self.assertIs(comes_to(own, stand, told[1], other), True)
            return "way"
        self.assertIs(is_fence(own, stand, told[1]), True)
        return "fence"

    def test_of_other_lots(self):
        for hall, stand, other, word in [
            (*six_walls(), ("d", (1, 0, 3, 2)), "wall"), (*six_asks(), ("d", (2, 3, 0, 1)), "ask"),
            (*six_asks(), ("e", (1, 2, 3, 0)), "ask"),
        ]:
            every = lots_of(names_of(hall, word))
            papers = {lot: lot_paper(hall, stand, other, word, lot) for lot in every}
            self.assertEqual({paper[0] for paper in papers.values()}, {"does", "not"})
            for lot, near in product(every[::3], every):
                held = lot_holds(hall, stand, other, word, near, papers[lot])
                own = hall_of(hall, word, near)
                if is_rows(papers[lot][1]):
                    right = comes_to(own, stand, papers[lot][1], other)
                else:
                    right = is_fence(own, stand, papers[lot][1])
                self.assertIs(held, right)
                if papers[lot][0] != papers[near][0]:
                    self.assertIs(held, False)

    def test_a_row_out_or_a_step_turned(self):
        hall, stand = six_asks()
        other, lot = ("e", (3, 0, 1, 2)), ("saa", "sab", "saf")
        self.assertEqual(lot_paper(hall, stand, other, "ask", lot)[0], "does")
        rows = way_to(hall_of(hall, "ask", lot), stand, other)
        self.assertIs(lot_holds(hall, stand, other, "ask", lot, ("does", rows)), True)
        self.assertIs(lot_holds(hall, stand, other, "ask", lot, ("does", rows[:-1])), False)
        last = rows[-1]
        for at, (head, side) in enumerate(last):
            turned = [*last[:at], (head, "back" if side == "forth" else "forth"), *last[at + 1:]]
            for row in (turned, last[:at] + last[at + 1:], [*last[:at], ("nosuch", side), *last[at + 1:]]):
                paper = ("does", [*rows[:-1], row])
                right = comes_to(hall_of(hall, "ask", lot), stand, paper[1], other)
                self.assertIs(lot_holds(hall, stand, other, "ask", lot, paper), right)
        self.assertIs(lot_holds(hall, stand, other, "ask", lot, ("does", [[]])), False)

    def test_a_fence_spoilt(self):
        hall, stand = six_walls()
        other, lot = ("d", (1, 0, 3, 2)), ("bd", "cd")
        word, (posts, tables) = lot_paper(hall, stand, other, "wall", lot)
        self.assertEqual(word, "does")
        for paper in [(posts[1:], tables), (posts, tables[1:]), (posts[:-1], tables), (posts, []), ([], tables),
                      [posts, tables], (posts, tables, []), posts, tables, None, [[]]]:
            self.assertIs(lot_holds(hall, stand, other, "wall", lot, ("does", paper)), is_fence(
                hall_of(hall, "wall", lot), stand, paper))
        self.assertIs(lot_holds(hall, stand, other, "wall", lot, ("does", (posts, tables))), True)
        # A fence that is let by but bars another stand alone.
        self.assertIs(lot_holds(hall, stand, ("b", (1, 0, 2, 3)), "wall", lot, ("does", (posts, tables))), False)
        self.assertIs(lot_holds(hall, stand, ("e", (1, 0, 2, 3)), "wall", lot, ("does", (posts, tables))), True)

    def test_that_others_would_tell(self):
        # Any way, any fence: by doors forth and back, and one of all that isn't beyond the walls.
        hall, stand = six_walls()
        other = ("d", (0, 1, 2, 3))
        way = [[("ab", "forth"), ("ab", "back"), ("ac", "forth"), ("cd", "forth")]]
        self.assertIs(lot_holds(hall, stand, other, "wall", (), ("not", way)), True)
        self.assertIs(lot_holds(hall, stand, other, "wall", ("ab",), ("not", way)), False)
        self.assertIs(lot_holds(hall, stand, other, "wall", ("bd",), ("not", way)), True)
        every = tables_of((0, 1, 2, 3), [(1, 0, 2, 3), (1, 2, 3, 0)])
        wide = ([((room, ()), (0, 1, 2, 3)) for room in "abc"], every)
        self.assertIs(lot_holds(hall, stand, other, "wall", ("bd", "cd"), ("does", wide)), True)
        self.assertIs(lot_holds(hall, stand, other, "wall", ("bd", "cd", "dd"), ("does", wide)), True)
        self.assertIs(lot_holds(hall, stand, other, "wall", ("bd",), ("does", wide)), False)

    def test_of_anything(self):
        for hall, stand, other, word, lot in [
            (*six_walls(), ("d", (1, 0, 3, 2)), "wall", ("bd", "cd")),
            (*six_walls(), ("d", (1, 0, 3, 2)), "wall", ("bd",)),
            (*six_asks(), ("d", (2, 3, 0, 1)), "ask", ("saa", "sab", "saf")),
            (*six_asks(), ("e", (3, 0, 1, 2)), "ask", ("saa", "sab", "saf")),
        ]:
            told, paper = lot_paper(hall, stand, other, word, lot)
            for thing in ODD + [told, paper, [told, paper], (told,), (told, paper, None), (paper, told)]:
                self.assertIs(lot_holds(hall, stand, other, word, lot, thing), False)
                self.assertIs(lot_holds(hall, stand, other, word, lot, (thing, paper)), thing == told)
                self.assertIs(lot_holds(hall, stand, other, word, lot, (told, thing)), thing == paper)
                for said in ("does", "not", "Does", "ask", "wall"):
                    if thing != paper:
                        self.assertIs(lot_holds(hall, stand, other, word, lot, (said, thing)), False)

    def test_told_are_just_the_told_kinds(self):
        for hall, start, word, lot in [(*six_walls(), "wall", ("bd", "cd")), (*six_asks(), "ask", ("saa", "saf"))]:
            stand = Row([Text(start[0]), Row([Number(mark) for mark in start[1]])])
            for room in "cde":
                other = Row([Text(room), stand[1]])
                plain = (room, start[1])
                dressed = Row([Text(name) for name in lot])
                assert_same(self, lots(hall, stand, other, Text(word)), lots(hall, start, plain, word))
                assert_same(self, lot_paper(hall, stand, other, Text(word), dressed),
                            lot_paper(hall, start, plain, word, lot))

    def test_arguments_by_their_names(self):
        hall, other = small_hall(), ("yard", (0, 1, 4, 3, 2))
        told = lots(word="ask", other=other, stand=START, hall=hall)
        assert_same(self, told, lots(hall, START, other, "ask"))
        paper = lot_paper(lot=("gate",), word="ask", other=other, stand=START, hall=hall)
        assert_same(self, paper, lot_paper(hall, START, other, "ask", ("gate",)))
        self.assertIs(lot_holds(thing=paper, lot=("gate",), word="ask", other=other, stand=START, hall=hall), True)
        self.assertIs(covers(fails=told[1], does=told[0], names=["gate", "lift"]), True)


class CoversTest(unittest.TestCase):
    def test_no_names(self):
        for names in ([], ()):
            assert_same(self, covers(names, [()], []), True)
            assert_same(self, covers(names, [], [()]), True)
            assert_same(self, covers(names, [], []), False)
            assert_same(self, covers(names, [()], [()]), False)

    def test_each_answer_of_two_names(self):
        every = lots_of(["a", "b"])
        for many in product(lots_of(range(4)), repeat=2):
            does, fails = [[every[number] for number in numbers] for numbers in many]
            right = all(
                any(set(one) <= set(lot) for one in does) != any(set(lot) <= set(one) for one in fails)
                for lot in every
            )
            for names in (["a", "b"], ("b", "a")):
                assert_same(self, covers(names, does, fails), right)
                assert_same(self, covers(names, does[::-1], fails[::-1]), right)

    def test_the_right_lists_and_others(self):
        least, greatest = [("a", "b"), ("a", "d"), ("c",)], [("a",), ("b", "d")]
        for names in (list("abcd"), tuple("dbca")):
            assert_same(self, covers(names, least, greatest), True)
            for at in range(len(least)):
                assert_same(self, covers(names, least[:at] + least[at + 1:], greatest), False)
            for at in range(len(greatest)):
                assert_same(self, covers(names, least, greatest[:at] + greatest[at + 1:]), False)
            # More that says nothing else is no fault.
            assert_same(self, covers(names, [*least, ("a", "c")], greatest), True)
            assert_same(self, covers(names, [*least, least[0]], [*greatest, ("b",), ()]), True)
            for lot in [(), ("a",), ("b",), ("d",), ("b", "d")]:
                assert_same(self, covers(names, [*least, lot], greatest), False)
            for lot in [("c",), ("a", "b"), ("a", "b", "c", "d"), ("a", "d"), ("b", "c")]:
                assert_same(self, covers(names, least, [*greatest, lot]), False)

    def test_a_name_more_or_less(self):
        least, greatest = [("a", "b"), ("c",)], [("a",), ("b",)]
        assert_same(self, covers("abc", least, greatest), True)
        assert_same(self, covers(["a", "b", "c", "d"], least, greatest), False)
        assert_same(self, covers(["a", "b", "c", "d"], least, [("a", "d"), ("b", "d")]), True)
        assert_same(self, covers(["a", "c"], least, [("a",)]), True)
        assert_same(self, covers(["a", "b"], [("a", "b")], greatest), True)
        assert_same(self, covers(["a", "b", "c"], [("a", "b")], greatest), False)

    def test_six_names(self):
        names = tuple("abcdef")
        least, greatest = list(combinations(names, 4)), list(combinations(names, 3))
        assert_same(self, covers(names, least, greatest), True)
        assert_same(self, covers(names, least[1:], greatest), False)
        assert_same(self, covers(names, least, greatest[:-1]), False)
        assert_same(self, covers(names, [()], []), True)
        assert_same(self, covers(names, [], [names]), True)
        assert_same(self, covers(names, [names], [names]), False)
        assert_same(self, covers(names, [names], list(combinations(names, 5))), True)
        self.assertEqual(least, list(combinations(names, 4)))


if __name__ == "__main__":
    unittest.main()
