"""Halls and odd things that several tests use."""

from itertools import permutations

from recutkeys.halls import Hall


def nested(kind, times):
    """A tuple or list in a tuple or list, so many times."""
    thing = kind()
    for _ in range(times - 1):
        thing = kind([thing])
    return thing


# What "of anything" may be: nothing of it is a number, text, key, step or room of the halls below.
ODD = [
    None, True, False, 0, 1, -1, 10 ** 30, -(10 ** 30), "", " ", "\n", "Cave", "nosuch", "cave ", "()x",
    (), (None,), (True,), (0,), ((),), ([],), ({},), ("", ""), ("cave",), ("gate", "sideways"),
    [], [0], ["cave"], ["gate", "forth"], {}, {"cave": 0}, {0: []},
    nested(tuple, 8), nested(list, 8), (([{"a": [({},)]}],),),
]


def small_hall():
    """Two rooms, three doors, marks 2 and 4 of five watched."""
    doors = [
        ("gate", "cave", "yard", (1, 0, 2, 3, 4), ((2, 0),)),
        ("arch", "cave", "cave", (1, 2, 3, 4, 0), ()),
        ("lift", "yard", "cave", (0, 1, 3, 2, 4), ((2, 2), (4, 4))),
    ]
    return Hall(5, (2, 4), ("cave", "yard"), doors)


def letters(number, first):
    """A name from a number, all rising with it."""
    return first + chr(97 + number // 26) + chr(97 + number % 26)


def great_hall():
    """As much as a hall can have."""
    rooms = [letters(number, "r") for number in range(8)]
    cut = tuple(range(11, -1, -1))
    doors = [
        (letters(number, "d"), rooms[number % 8], rooms[number * 3 % 8], cut, ((10, number % 12), (11, 3)))
        for number in range(24)
    ]
    return Hall(12, (10, 11), rooms, doors)


def arrangements_of(places):
    """All arrangements of so many places."""
    return list(permutations(range(places)))


class Number(int):
    """A class made from int."""


class Text(str):
    """A class made from str."""


class Row(tuple):
    """A class made from tuple."""


def assert_just(case, thing):
    """All of a told thing is of the told kinds, of no class made from them."""
    case.assertIn(type(thing), (type(None), bool, int, str, tuple, list, dict))
    if type(thing) in (tuple, list):
        for part in thing:
            assert_just(case, part)


def assert_same(case, told, wanted):
    """Told is what is wanted, truths and numbers, tuples and lists kept apart."""
    assert_just(case, told)
    case.assertEqual(repr(told), repr(wanted))
