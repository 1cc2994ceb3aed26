"""Points 1 to 4 over the whole: all that is told of small halls agrees with going through all their stands."""

import unittest
from itertools import combinations, product
from math import factorial

from recutkeys.arrangements import undone
from recutkeys.boards import board, board_way
from recutkeys.changes import (
    marks_turned, marks_turned_stand, places_turned, places_turned_stand, renamed, renamed_stand, unasked, walled,
)
from recutkeys.counts import home_many, key_at, many_at, many_stands, number_of
from recutkeys.errors import NoNumber
from recutkeys.fences import bars, fence, is_fence, walked
from recutkeys.fewest import fewest, fewest_paper, is_fewest
from recutkeys.halls import Hall
from recutkeys.halltexts import read_hall, show_hall
from recutkeys.journals import read_walk, show_walk
from recutkeys.looks import looks
from recutkeys.lots import covers, lot_holds, lot_paper, lots
from recutkeys.marks import pairs_of, places_of
from recutkeys.parts import loops, part, tree_way
from recutkeys.rows import comes_to, unrolled
from recutkeys.sights import clash, seen_first, seen_many, sure
from recutkeys.stands import brings, split
from recutkeys.steps import steps
from recutkeys.telling import full, is_full, way_to
from recutkeys.together import is_together, together
from recutkeys.walk import Walk
from recutkeys.ways import made, played, read_way, show_way
from tests.samples import all_made, arrangements_of, gone_through, halls_and_stands, stands_of


def drawn(start, many):
    """Whole numbers below a hundred thousand that hang on the start alone."""
    number, told = start * 7919 + 104729, []
    for _ in range(many):
        number = (number * 1103515245 + 12345) % (1 << 31)
        told.append(number >> 14)
    return told


def drawn_hall(start):
    """A hall and a stand that hang on a number: three to five places, one to three rooms, up to six doors."""
    numbers = drawn(start, 99)
    places, many = 3 + numbers[0] % 3, 1 + numbers[1] % 3
    rooms = ["cave", "yard", "attic"][:many]
    watched = list(range(places))[numbers[2] % places:][:numbers[3] % 3]
    keys = arrangements_of(places)
    doors = []
    for at in range(2 + numbers[4] % 5):
        one, other, cut, asked, *spots = numbers[5 + at * 6:11 + at * 6]
        asks = [(mark, spot % places) for mark, spot in zip(watched, spots)][:asked % 3]
        # Cuts of few places leave some keys that aren't come to.
        cut = keys[cut % len(keys)] if start % 3 else keys[cut % 6]
        doors.append(("d" + "abcdef"[at], rooms[one % many], rooms[other % many], cut, asks))
    return Hall(places, watched, rooms, doors), (rooms[numbers[60] % many], keys[numbers[61] % len(keys)])


def some_halls():
    """Small halls by hand, and others drawn."""
    return halls_and_stands() + [drawn_hall(start) for start in range(30)]


def anew(hall):
    """A hall made anew, equal but another one."""
    return Hall(hall.places(), hall.watched(), hall.rooms(), [(name, *hall.door(name)) for name in hall.doors()])


def told_of(hall, stand):
    """Of what is told of a stand all but what any answer may be."""
    told = [part(hall, stand), home_many(hall, stand), many_stands(hall, stand)]
    colours = [mark // 2 for mark in range(hall.places())]
    for room in hall.rooms():
        many = many_at(hall, stand, room)
        told += [many, [key_at(hall, stand, room, number) for number in range(0, many, 3)]]
        told += [looks(hall, stand, room, colours), sure(hall, stand, room, [])]
        for sights in ([(0, 1)], [(1, 0), (0, 2)]):
            told += [seen_many(hall, stand, room, sights), seen_first(hall, stand, room, sights)]
            told += [sure(hall, stand, room, sights), clash(hall, stand, room, sights)]
    told += [places_of(hall, stand, mark) for mark in range(hall.places())]
    return told


def each():
    """Each small hall with a stand, and all stands that a way comes to, with the fewest steps."""
    for hall, stand in some_halls():
        yield hall, stand, gone_through(hall, stand)


class CountsTest(unittest.TestCase):
    def test_stands_parts_and_homes(self):
        for hall, stand, inside in each():
            self.assertEqual(many_stands(hall, stand), len(inside))
            spots = sorted({split(hall, other) for other in inside})
            self.assertEqual(part(hall, stand), spots)
            homes = {brings(stand[1], other[1]) for other in inside if split(hall, other) == split(hall, stand)}
            self.assertEqual(home_many(hall, stand), len(homes))
            self.assertEqual(len(inside), len(homes) * len(spots))
            self.assertEqual(factorial(hall.places()) % len(homes), 0)
            self.assertEqual(all_made(hall.places(), [made(hall, stand, way) for way in loops(hall, stand)]), homes)
            for spot in spots:
                self.assertEqual(sum(split(hall, other) == spot for other in inside), len(homes))
                way = tree_way(hall, stand, spot)
                end = played(hall, stand, way)[-1]
                self.assertEqual(split(hall, end), spot)
                self.assertEqual(len(way), min(inside[other] for other in inside if split(hall, other) == spot))

    def test_keys_and_numbers(self):
        for hall, stand, inside in each():
            for room in hall.rooms():
                keys = [key for place, key in inside if place == room]
                keys.sort(key=lambda key: (split(hall, (room, key)), undone(key)))
                self.assertEqual(many_at(hall, stand, room), len(keys))
                for number, key in enumerate(keys):
                    self.assertEqual(key_at(hall, stand, room, number), key)
                    self.assertEqual(number_of(hall, stand, room, key), number)
                for key in arrangements_of(hall.places())[::5]:
                    if key not in keys:
                        with self.assertRaises(NoNumber):
                            number_of(hall, stand, room, key)
                with self.assertRaises(NoNumber):
                    key_at(hall, stand, room, len(keys))

    def test_marks(self):
        for hall, stand, inside in each():
            for mark in range(hall.places()):
                wanted = sorted({(room, key.index(mark)) for room, key in inside})
                self.assertEqual(places_of(hall, stand, mark), wanted)
            for one, other in combinations(range(hall.places()), 2):
                wanted = sorted({(room, key.index(other), key.index(one)) for room, key in inside})
                self.assertEqual(pairs_of(hall, stand, other, one), wanted)

    def test_looks_and_sights(self):
        for hall, stand, inside in each():
            places = range(hall.places())
            for room in hall.rooms():
                keys = [key for place, key in inside if place == room]
                for colours in ([mark % 2 for mark in places], [mark // 2 for mark in places], list(places)):
                    wanted = sorted({tuple(colours[mark] for mark in key) for key in keys})
                    self.assertEqual(looks(hall, stand, room, colours), wanted)
                last = hall.places() - 1
                for sights in [[(1, 0)], [(0, 0), (last, 1)], [(last, 0), (0, 0)]]:
                    showing = [key for key in keys if all(key[place] == mark for mark, place in sights)]
                    self.assertEqual(seen_many(hall, stand, room, sights), len(showing))
                    first = seen_first(hall, stand, room, sights)
                    numbers = [number_of(hall, stand, room, key) for key in showing]
                    self.assertEqual(first, showing[numbers.index(min(numbers))] if showing else None)
                    every = [
                        (mark, place) for mark, place in product(places, places)
                        if showing and all(key[place] == mark for key in showing)
                    ]
                    self.assertEqual(sure(hall, stand, room, sights), every)
                    self.assertEqual(clash(hall, stand, room, sights) is None, bool(showing))


class PapersTest(unittest.TestCase):
    def test_of_each_stand_just_one_holds(self):
        for hall, stand, inside in each():
            paper = fence(hall, stand)
            self.assertIs(is_fence(hall, stand, paper), True)
            self.assertIs(is_full(hall, stand, full(hall, stand)), True)
            for other in stands_of(hall):
                rows = way_to(hall, stand, other)
                self.assertEqual(rows is not None, other in inside)
                self.assertIs(bars(hall, stand, paper, other), rows is None)
                if rows is not None:
                    self.assertIs(comes_to(hall, stand, rows, other), True)

    def test_fences_walked(self):
        for hall, stand, inside in each():
            paper = fence(hall, stand)
            for other in list(inside)[::11]:
                _, way = fewest(hall, stand, other)
                end = walked(hall, stand, paper, way)
                self.assertIs(is_fence(hall, other, end), True)
                for near in stands_of(hall)[::13]:
                    self.assertIs(bars(hall, other, end, near), near not in inside)

    def test_fewest_steps(self):
        for hall, stand, inside in each():
            for other in stands_of(hall)[::9]:
                told = fewest(hall, stand, other)
                self.assertEqual(None if told is None else told[0], inside.get(other))
                self.assertIs(is_fewest(hall, stand, other, fewest_paper(hall, stand, other)), True)
                if told is not None:
                    self.assertEqual(played(hall, stand, read_way(show_way(told[1])))[-1], other)

    def test_places_together(self):
        for hall, stand, inside in each():
            homes = [brings(stand[1], other[1]) for other in inside if split(hall, other) == split(hall, stand)]
            for one, other in combinations(range(hall.places()), 2):
                told = together(hall, stand, one, other)
                self.assertIs(is_together(hall, stand, one, other, told), True)
                heads = {place: group[0] for group in told[0] for place in group}
                for home in homes:
                    for group in told[0]:
                        self.assertEqual(len({heads[home[place]] for place in group}), 1)
                    # Whoever keeps the two together keeps these together, too.
                    self.assertEqual(heads[home[one]], heads[home[other]])

    def test_lots(self):
        for hall, stand, inside in each():
            for word, change in (("ask", unasked), ("wall", walled)):
                names = [name for name in hall.doors() if word == "wall" or hall.door(name)[3]]
                if len(names) > 4:
                    continue
                come = {}
                for many in range(len(names) + 1):
                    for lot in combinations(names, many):
                        changed = hall
                        for name in lot:
                            changed = change(changed, name)
                        come[lot] = set(gone_through(changed, stand))
                for other in stands_of(hall)[::29]:
                    least, greatest = lots(hall, stand, other, word)
                    self.assertIs(covers(names, least, greatest), True)
                    for lot in come:
                        does = (other in come[lot]) == (word == "ask")
                        self.assertEqual(any(set(one) <= set(lot) for one in least), does)
                        self.assertEqual(any(set(lot) <= set(one) for one in greatest), not does)
                    for lot in least + greatest:
                        paper = lot_paper(hall, stand, other, word, lot)
                        self.assertEqual(paper[0], "does" if lot in least else "not")
                        self.assertIs(lot_holds(hall, stand, other, word, lot, paper), True)


class HallsTest(unittest.TestCase):
    def test_from_each_stand_the_same_is_told(self):
        for hall, stand, inside in each():
            wanted = told_of(hall, stand)
            for other in list(inside)[::7]:
                self.assertEqual(told_of(hall, other), wanted)

    def test_one_stand_after_another(self):
        for hall, stand, inside in each():
            # Of stands that are come to from each other and of others, in turn and again.
            others = [stand, *stands_of(hall)[::1 + len(stands_of(hall)) // 3], stand]
            first = [told_of(hall, other) for other in others]
            self.assertEqual(first, [told_of(anew(hall), other) for other in others])
            self.assertEqual(first, [told_of(hall, other) for other in others])
            self.assertEqual([repr(full(hall, other)) for other in others],
                             [repr(full(anew(hall), other)) for other in others])
            self.assertEqual(read_hall(show_hall(hall)), anew(hall))

    def test_a_door_walled_or_unasked(self):
        for hall, stand, inside in each():
            for door in hall.doors():
                less, more = walled(hall, door), unasked(hall, door)
                self.assertEqual(many_stands(less, stand), len(gone_through(less, stand)))
                self.assertEqual(many_stands(more, stand), len(gone_through(more, stand)))
                self.assertEqual(home_many(hall, stand) % home_many(less, stand), 0)
                self.assertEqual(home_many(more, stand) % home_many(hall, stand), 0)
                # A fence of the hall is one where a door is walled, too.
                self.assertIs(is_fence(less, stand, fence(hall, stand)), True)

    def test_what_is_let_hangs_on_no_name_and_no_number(self):
        for hall, stand, inside in each():
            every = hall.rooms() + hall.doors()
            names, turn = dict(zip(every, every[::-1])), (*range(1, hall.places()), 0)
            named, marked, placed = renamed(hall, names), marks_turned(hall, turn), places_turned(hall, turn)
            for other in stands_of(hall)[::17] + [stand]:
                way = None if other not in inside else unrolled(way_to(hall, stand, other), most=10 ** 6)
                stands = [(named, renamed_stand(names, stand), renamed_stand(names, other))]
                stands.append((marked, marks_turned_stand(turn, stand), marks_turned_stand(turn, other)))
                stands.append((placed, places_turned_stand(turn, stand), places_turned_stand(turn, other)))
                for changed, near, far in stands:
                    self.assertEqual(way_to(changed, near, far) is not None, other in inside)
                    self.assertEqual(many_stands(changed, near), len(inside))
                    told = fewest(changed, near, far)
                    self.assertEqual(None if told is None else told[0], inside.get(other))
                if way is not None:
                    turned = tuple((names[door], side) for door, side in way)
                    self.assertEqual(played(named, stands[0][1], turned)[-1], stands[0][2])
                    self.assertEqual(played(marked, stands[1][1], way)[-1], stands[1][2])
                    self.assertEqual(played(placed, stands[2][1], way)[-1], stands[2][2])


class WalksTest(unittest.TestCase):
    def test_walks(self):
        for hall, stand, inside in each():
            walk = Walk(hall, stand)
            for number in drawn(len(inside), 9):
                can, doors = steps(walk.hall_at(), walk.stand_at()), walk.hall_at().doors()
                if can and number % 3:
                    walk.do(can[number % len(can)])
                elif doors:
                    change = (walk.wall, walk.unask)[number % 2]
                    change(doors[number % len(doors)])
                now = gone_through(walk.hall_at(), walk.stand_at())
                self.assertEqual(walk.many(), len(now))
                rows = walk.way_home()
                self.assertEqual(rows is not None, stand in now)
                if rows is not None:
                    self.assertIs(comes_to(walk.hall_at(), walk.stand_at(), rows, stand), True)
                for other in stands_of(hall)[::37]:
                    self.assertIs(walk.can(other), other in now)
            self.assertEqual(read_walk(show_walk(walk)), walk)
            # By steps alone one can always go back: then the home arrangements are as many as ahead.
            while walk.acts():
                walk.back()
            self.assertEqual(told_of(walk.hall_at(), walk.stand_at()), told_of(hall, stand))

    def test_a_board_lived_in(self):
        pairs = [(0, 1), (1, 2), (3, 4), (4, 5), (0, 3), (1, 4), (2, 5)]
        hall, stand = board(6, pairs, 5), ("board", (0, 1, 2, 3, 4, 5))
        walk = Walk(hall, stand)
        for step in board_way(pairs, 5, [2, 1, 4, 3, 0]):
            walk.do(step)
        self.assertEqual(walk.stand_at(), ("board", (5, 4, 1, 0, 3, 2)))
        self.assertEqual(walk.many(), factorial(6) // 2)
        self.assertIs(comes_to(hall, walk.stand_at(), walk.way_home(), stand), True)
        number, way = fewest(hall, stand, walk.stand_at())
        self.assertEqual((number, played(hall, stand, way)[-1]), (5, walk.stand_at()))
        for door in ("be", "de", "ef"):
            walk.wall(door)
        # On the line that is left nothing passes anything: the empty mark has its five places.
        self.assertEqual(walk.many(), 5)
        self.assertIs(walk.can(stand), False)
        self.assertIs(walk.way_home(), None)


if __name__ == "__main__":
    unittest.main()
