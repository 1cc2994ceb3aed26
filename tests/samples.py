"""Halls and odd things that several tests use."""

from itertools import permutations

from recutkeys.arrangements import behind, undone
from recutkeys.halls import Hall
from recutkeys.stands import brings, is_split, split
from recutkeys.steps import done, steps


def nested(kind, times):
    """A tuple or list in a tuple or list, so many times."""
    thing = kind()
    for _ in range(times - 1):
        thing = kind([thing])
    return thing


# What "of anything" may be: nothing of it is a number, text, key, step or room of the halls below.
ODD = [
    None, True, False, 0, 1, -1, 10 ** 30, -(10 ** 30), "", " ", "\n", "Cave", "nosuch", "cave ", "()x",
    (), (None,), (True,), (0,), ((),), ([],), ({},), ("", ""), ("cave",), ("gate", "sideways"),
    [], [0], ["cave"], ["gate", "forth"], {}, {"cave": 0}, {0: []},
    nested(tuple, 8), nested(list, 8), (([{"a": [({},)]}],),),
]


def small_hall():
    """Two rooms, three doors, marks 2 and 4 of five watched."""
    doors = [
        ("gate", "cave", "yard", (1, 0, 2, 3, 4), ((2, 0),)),
        ("arch", "cave", "cave", (1, 2, 3, 4, 0), ()),
        ("lift", "yard", "cave", (0, 1, 3, 2, 4), ((2, 2), (4, 4))),
    ]
    return Hall(5, (2, 4), ("cave", "yard"), doors)


def letters(number, first):
    """A name from a number, all rising with it."""
    return first + chr(97 + number // 26) + chr(97 + number % 26)


def great_hall():
    """As much as a hall can have."""
    rooms = [letters(number, "r") for number in range(8)]
    cut = tuple(range(11, -1, -1))
    doors = [
        (letters(number, "d"), rooms[number % 8], rooms[number * 3 % 8], cut, ((10, number % 12), (11, 3)))
        for number in range(24)
    ]
    return Hall(12, (10, 11), rooms, doors)


def halls_and_stands():
    """Small halls, each with a stand, of which all stands can be gone through."""
    # A door that asks two marks at one place never opens, so nobody comes to the attic.
    never = [
        ("arch", "cave", "cave", (1, 0, 3, 2), ()), ("gate", "cave", "yard", (0, 2, 1, 3), ((0, 1),)),
        ("hatch", "yard", "attic", (0, 1, 2, 3), ((0, 1), (3, 1))), ("lift", "yard", "cave", (3, 1, 2, 0), ((3, 0),)),
    ]
    # The empty mark 0 goes from place to place of a board of two by two.
    slid = [
        (one + other, "board", "board", cut, ((0, ord(one) - 97),))
        for one, other, cut in [
            ("a", "b", (1, 0, 2, 3)), ("a", "c", (2, 1, 0, 3)), ("b", "d", (0, 3, 2, 1)), ("c", "d", (0, 1, 3, 2)),
        ]
    ]
    # Whatever opens, places 0 and 1, 2 and 3, 4 and 5 stay together.
    pairs = [
        ("a", "x", "x", (1, 0, 2, 3, 4, 5), ()), ("b", "x", "y", (2, 3, 4, 5, 0, 1), ()),
        ("c", "y", "x", (2, 3, 0, 1, 4, 5), ()), ("d", "y", "y", (2, 3, 4, 5, 0, 1), ()),
        ("e", "z", "z", (1, 2, 3, 4, 5, 0), ()),
    ]
    wide = [
        ("arch", "cave", "cave", (1, 2, 3, 4, 0), ()), ("gate", "cave", "yard", (1, 0, 2, 3, 4), ((2, 0),)),
        ("lift", "yard", "cave", (0, 1, 3, 2, 4), ((2, 1),)), ("trap", "yard", "yard", (0, 1, 3, 4, 2), ()),
    ]
    seen = [("turn", "a", "a", (1, 2, 3, 4, 0), ()), ("swap", "a", "b", (0, 2, 1, 3, 4), ((0, 0), (1, 4)))]
    seen.extend([("trap", "b", "b", (0, 1, 3, 2, 4), ((0, 0),)), ("whirl", "b", "a", (0, 3, 1, 2, 4), ((1, 4),))])
    turns = [("c", "a", "a", (1, 2, 3, 0), ()), ("d", "a", "a", (1, 0, 2, 3), ())]
    return [
        (small_hall(), ("cave", (0, 1, 4, 3, 2))),
        (small_hall(), ("yard", (4, 2, 0, 1, 3))),
        (Hall(4, (0, 3), ("cave", "yard", "attic"), never), ("cave", (2, 0, 1, 3))),
        (Hall(4, (0, 3), ("cave", "yard", "attic"), never), ("attic", (2, 0, 1, 3))),
        (Hall(4, (0,), ("board",), slid), ("board", (1, 0, 3, 2))),
        (Hall(6, (), ("x", "y", "z"), pairs), ("y", (0, 3, 2, 1, 4, 5))),
        (Hall(5, (2,), ("cave", "yard"), wide), ("cave", (4, 1, 0, 3, 2))),
        (Hall(5, (2, 4), ("cave", "yard"), wide), ("yard", (4, 2, 0, 1, 3))),
        (Hall(5, (0, 1), ("a", "b"), seen), ("a", (0, 2, 3, 4, 1))),
        (Hall(2, (1,), ("a", "b"), [("c", "a", "b", (1, 0), ((1, 1),))]), ("a", (0, 1))),
        (Hall(3, (), ("a",), []), ("a", (2, 0, 1))),
        (Hall(4, (), ("a",), turns), ("a", (0, 1, 2, 3))),
    ]


def halls_of_twelve():
    """Halls of twelve places, each with a stand: one room and two doors, and as many rooms and doors as can be."""
    turn, swap = (*range(1, 12), 0), (1, 0, *range(2, 12))
    home = tuple(range(12))
    one = Hall(12, (3, 7), ("a",), [("turn", "a", "a", turn, ()), ("swap", "a", "a", swap, ())])
    rooms = [letters(number, "r") for number in range(8)]
    doors = [
        (
            letters(number, "d"), rooms[number % 8], rooms[(number * 5 + number // 8) % 8],
            turn if number % 3 else swap, ((3, number % 12),) if number % 2 else (),
        )
        for number in range(24)
    ]
    return [(one, ("a", home)), (Hall(12, (3, 7), rooms, doors), ("raa", home))]


def stands_of(hall):
    """All stands of a hall."""
    return [(room, key) for room in hall.rooms() for key in arrangements_of(hall.places())]


def spots_of(hall):
    """All split rooms of a hall."""
    picks = list(permutations(range(hall.places()), len(hall.watched())))
    spots = [(room, places) for room in hall.rooms() for places in picks]
    assert all(is_split(hall, spot) for spot in spots)
    return spots


def gone_through(hall, stand):
    """By each stand that some way comes to, gone through one by one: the fewest steps to it."""
    fewest, edge = {stand: 0}, [stand]
    while edge:
        further = []
        for near in edge:
            for step in steps(hall, near):
                far = done(hall, near, step)
                if far not in fewest:
                    fewest[far] = fewest[near] + 1
                    further.append(far)
        edge = further
    return fewest


def homes_of(hall, stand):
    """All home arrangements of a stand, from going through all stands."""
    spot = split(hall, stand)
    return {brings(stand[1], other[1]) for other in gone_through(hall, stand) if split(hall, other) == spot}


def all_made(places, makers):
    """All that arrangements make, one behind another and undone, one by one."""
    home = tuple(range(places))
    found, edge = {home}, [home]
    while edge:
        edge = list({behind(one, maker) for one in edge for maker in makers} - found)
        found.update(edge)
    assert all(undone(one) in found for one in found)
    return found


def arrangements_of(places):
    """All arrangements of so many places."""
    return list(permutations(range(places)))


class Number(int):
    """A class made from int."""


class Text(str):
    """A class made from str."""


class Row(tuple):
    """A class made from tuple."""


def assert_just(case, thing):
    """All of a told thing is of the told kinds, of no class made from them."""
    case.assertIn(type(thing), (type(None), bool, int, str, tuple, list, dict))
    if type(thing) in (tuple, list):
        for part in thing:
            assert_just(case, part)


def assert_same(case, told, wanted):
    """Told is what is wanted, truths and numbers, tuples and lists kept apart."""
    assert_just(case, told)
    case.assertEqual(repr(told), repr(wanted))
