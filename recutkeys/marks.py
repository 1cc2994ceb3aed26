"""To which places marks can come."""

from recutkeys.arrangements import behind
from recutkeys.errors import NoName
from recutkeys.parts import home, tree_of
from recutkeys.plain import is_whole
from recutkeys.ways import made


def places_of(hall, stand, mark):
    """Where a mark, of anything, can come to, or NoName."""
    return _met(hall, stand, [mark])


def pairs_of(hall, stand, one, other):
    """Where two marks, of anything, can come to together, or NoName."""
    return _met(hall, stand, [one, other])


def _met(hall, stand, marks):
    """Tuples of a room and the places on which the marks can stand together in it, rising; or NoName."""
    for mark in marks:
        if not is_whole(mark) or not 0 <= mark < hall.places():
            raise NoName(mark)
    tree = tree_of(hall, stand)
    _, ways = home(hall, tree, list(range(hall.places())))
    makers = [made(hall, stand, way) for way in ways]
    start = tuple([stand[1].index(mark) for mark in marks])
    return sorted(set([
        (spot[0],) + behind(places, tree[spot][0]) for places in _brought(start, makers) for spot in tree
    ]))


def _brought(start, makers):
    """All to which what arrangements make brings places, together."""
    # As often undone as one will, an arrangement is itself again so and so often: none need be undone.
    found = {start: True}
    edge = [start]
    while edge:
        ends = [behind(places, one) for places in edge for one in makers]
        edge = [places for places in sorted(set(ends)) if places not in found]
        for places in edge:
            found[places] = True
    return list(found)
