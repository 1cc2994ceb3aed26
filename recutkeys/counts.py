"""How many keys there are, each by its number."""

from recutkeys.arrangements import behind, is_arrangement, undone
from recutkeys.errors import NoName, NoNumber
from recutkeys.parts import home, tree_of
from recutkeys.plain import is_whole
from recutkeys.stands import brings, split
from recutkeys.tables import many_in


def home_many(hall, stand):
    """How many home arrangements there are."""
    return many_in(_marked_tables(hall, stand, tree_of(hall, stand)))


def many_at(hall, stand, room):
    """With how many keys one can stand in a room, of anything, or NoName."""
    see_room(hall, room)
    tree = tree_of(hall, stand)
    return len(spots_in(tree, room)) * many_in(_marked_tables(hall, stand, tree))


def many_stands(hall, stand):
    """How many stands can be come to."""
    tree = tree_of(hall, stand)
    return len(tree) * many_in(_marked_tables(hall, stand, tree))


def key_at(hall, stand, room, number):
    """The key of a number, of anything, in a room, of anything, or NoName or NoNumber."""
    see_room(hall, room)
    tree = tree_of(hall, stand)
    tables = _marked_tables(hall, stand, tree)
    spots = spots_in(tree, room)
    many = many_in(tables)
    if not is_whole(number) or not 0 <= number < many * len(spots):
        raise NoNumber(number)
    at, rest = divmod(int(number), many)
    one = tree[spots[at]][0]
    for place, rows in tables:
        many //= len(rows)
        at, rest = divmod(rest, many)
        one = behind(rising_by(place, rows, one)[at], one)
    return key_behind(stand, one)


def number_of(hall, stand, room, key):
    """The number of a key, of anything, in a room, of anything, or NoName or NoNumber."""
    see_room(hall, room)
    tree = tree_of(hall, stand)
    if not is_arrangement(hall.places(), key) or split(hall, (room, key)) not in tree:
        raise NoNumber(key)
    spot = split(hall, (room, key))
    number = spots_in(tree, room).index(spot)
    one = tree[spot][0]
    wanted = brings(stand[1], key)
    for place, rows in _marked_tables(hall, stand, tree):
        ordered = rising_by(place, rows, one)
        ends = [one[row[place]] for row in ordered]
        if wanted[place] not in ends:
            raise NoNumber(key)
        at = ends.index(wanted[place])
        number = number * len(rows) + at
        one = behind(ordered[at], one)
    return number


def see_room(hall, room):
    """See that anything is a room of the hall, or NoName."""
    if room not in hall.rooms():
        raise NoName(room)


def spots_in(tree, room):
    """The split rooms of a tree that are of a room, rising."""
    return sorted([spot for spot in tree if spot[0] == room])


def rising_by(place, rows, one):
    """A table's rows, rising by where they, then an arrangement, bring the table's place."""
    return [row for _, row in sorted([(one[row[place]], row) for row in rows])]


def key_behind(stand, one):
    """The key to which an arrangement brings a stand's."""
    return behind(undone(one), stand[1])


def _marked_tables(hall, stand, tree):
    """The home tables, by the places on which the stand's marks stand, from mark 0 on."""
    # In this order the rows of an earlier table tell where an earlier mark comes, as the keys' numbers rise.
    chain, _ = home(hall, tree, undone(stand[1]))
    return chain.tables()
