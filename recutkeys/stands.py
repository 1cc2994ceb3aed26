"""Stands, split rooms, and what brings one key to another."""

from recutkeys.arrangements import behind, is_arrangement, undone
from recutkeys.plain import is_pick, plain_text


def is_stand(hall, thing):
    """Whether anything is a stand of the hall."""
    return _is_in_room(hall, thing) and is_arrangement(hall.places(), thing[1])


def is_split(hall, thing):
    """Whether anything is a split room of the hall."""
    return _is_in_room(hall, thing) and is_pick(thing[1], len(hall.watched()), hall.places())


def split(hall, stand):
    """The split room of a stand."""
    room, key = stand
    return (plain_text(room), tuple([key.index(mark) for mark in hall.watched()]))


def brings(key, other):
    """The arrangement that moves each mark from where it stands in the key to where in the other."""
    return behind(key, undone(other))


def _is_in_room(hall, thing):
    """Whether anything is a tuple of a room of the hall and something else."""
    return isinstance(thing, tuple) and len(thing) == 2 and thing[0] in hall.rooms()
