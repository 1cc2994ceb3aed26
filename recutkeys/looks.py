"""Looks of keys: the colours of their marks, by the places."""

from recutkeys.arrangements import undone
from recutkeys.bounds import MOST_SPOTS
from recutkeys.counts import see_room
from recutkeys.errors import TooMany
from recutkeys.plain import plain_numbers
from recutkeys.stands import split
from recutkeys.steps import exits, onward


def looks(hall, stand, room, colours, *, most=MOST_SPOTS):
    """All looks of the keys with which one can stand in a room, of anything, rising; or NoName or TooMany."""
    see_room(hall, room)
    shown = plain_numbers(colours)
    first = (split(hall, stand), tuple([shown[mark] for mark in stand[1]]))
    found = {first: True}
    leading = exits(hall)
    edge = [first]
    while edge and len(found) <= most:
        edge = _widened(leading, found, edge)
    if len(found) > most:
        raise TooMany(most)
    return sorted(set([look for spot, look in found if spot[0] == room]))


def _widened(leading, found, edge):
    """Puts among the found what is a step behind the edge and not there yet: the new edge."""
    further = []
    for spot, look in edge:
        # What can be done hangs on the split room alone, so keys that look alike there are gone on with as one.
        for _, end, moves in onward(leading, spot):
            seen = (end, tuple([look[place] for place in undone(moves)]))
            if seen not in found:
                found[seen] = True
                further.append(seen)
    return further
