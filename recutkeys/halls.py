"""Halls: places, watched marks, rooms, and doors with their cuts and asks."""

from recutkeys.errors import NoName
from recutkeys.plain import plain_numbers, plain_text


class Hall:
    """A hall, kept in one order, in whichever order it was handed in."""

    def __init__(self, places, watched, rooms, doors):
        self._places = int(places)
        self._watched = tuple(sorted(plain_numbers(watched)))
        self._rooms = tuple(sorted([plain_text(room) for room in rooms]))
        self._doors = _kept_doors(doors)

    def __eq__(self, other):
        return (
            isinstance(other, Hall)
            and self._places == other._places
            and self._watched == other._watched
            and self._rooms == other._rooms
            and self._doors == other._doors
        )

    def __len__(self):
        return len(self._rooms)

    def places(self):
        """How many places there are."""
        return self._places

    def watched(self):
        """The watched marks, rising."""
        return self._watched

    def rooms(self):
        """The names of the rooms, rising."""
        return list(self._rooms)

    def doors(self):
        """The names of the doors, rising."""
        return list(self._doors)

    def door(self, name):
        """One room, other room, cut and asks of the door of this name, or NoName."""
        # What is no text may be no key of a dict, so it is not looked up.
        if not isinstance(name, str) or name not in self._doors:
            raise NoName(name)
        return self._doors[name]


def doors_of(hall):
    """All doors of a hall, in the form in which a hall is handed them."""
    return [(name, *hall.door(name)) for name in hall.doors()]


def _kept_doors(doors):
    """A dict from the doors' names, rising, to all else of them."""
    kept = {}
    for name, one, other, cut, asks in sorted(doors, key=lambda door: door[0]):
        rising = tuple(sorted([plain_numbers(ask) for ask in asks]))
        kept[plain_text(name)] = (plain_text(one), plain_text(other), plain_numbers(cut), rising)
    return kept
