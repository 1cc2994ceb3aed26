"""Boards of sliding pieces, as halls of one room: what the empty mark changes places with."""

from recutkeys.errors import NoMove
from recutkeys.halls import Hall
from recutkeys.plain import LETTERS, is_whole

ROOM = "board"


def board(places, pairs, empty):
    """The hall of a board: its door of two neighbours exchanges what stands on them, one of which is empty."""
    doors = [_door(places, min(pair), max(pair), empty) for pair in pairs]
    return Hall(places, [empty], [ROOM], doors)


def board_way(pairs, first, moves):
    """The way on which the empty mark goes from its first place to each next one, of anything, or NoMove."""
    neighbours = [sorted(pair) for pair in pairs]
    way = []
    place = first
    for at, end in enumerate(moves):
        if not is_whole(end) or sorted([place, end]) not in neighbours:
            raise NoMove(at)
        way.append((_name(min(place, end), max(place, end)), "forth" if place < end else "back"))
        place = end
    return tuple(way)


def _door(places, low, high, empty):
    """The door of two neighbours, as a hall is handed it."""
    cut = list(range(places))
    cut[low], cut[high] = high, low
    return (_name(low, high), ROOM, ROOM, cut, [(empty, low)])


def _name(low, high):
    """The name of the door of two neighbours."""
    return LETTERS[low] + LETTERS[high]
