"""Sights: what is sure of the keys of a room that show some marks on some places."""

from recutkeys.arrangements import behind, undone
from recutkeys.counts import key_behind, rising_by, see_room, spots_in
from recutkeys.parts import home, tree_of
from recutkeys.tables import many_in


def seen_many(hall, stand, room, sights):
    """How many keys of a room, of anything, show all sights, or NoName."""
    tables, looked = _looked(hall, stand, room, sights)
    return len(_showing(looked)) * many_in(tables)


def seen_first(hall, stand, room, sights):
    """The first key of a room, of anything, that shows all sights, None where none does, or NoName."""
    tables, looked = _looked(hall, stand, room, sights)
    ones = _showing(looked)
    if not ones:
        return None
    one = ones[0]
    for place, rows in tables:
        one = behind(rising_by(place, rows, one)[0], one)
    return key_behind(stand, one)


def sure(hall, stand, room, sights):
    """All sights that each key of a room, of anything, shows that shows these, rising, or NoName."""
    tables, looked = _looked(hall, stand, room, sights)
    shown = [_fixed(stand, tables, one) for one in _showing(looked)]
    if not shown:
        return []
    return [sight for sight in shown[0] if all([sight in others for others in shown])]


def clash(hall, stand, room, sights):
    """The number of the first sight by which no key of a room, of anything, shows all; None, -1; or NoName."""
    _, looked = _looked(hall, stand, room, sights)
    numbers = [number for number, _ in looked]
    if None in numbers:
        return None
    return max([-1, *numbers])


def _looked(hall, stand, room, sights):
    """The home tables that the sights leave free, and for each split room of a room how the sights are kept there."""
    see_room(hall, room)
    tree = tree_of(hall, stand)
    stood = undone(stand[1])
    # The marks that are seen go first, so that a table's row is told by a sight, one behind another.
    seen = _marks_in(sights)
    order = seen + [mark for mark in range(hall.places()) if mark not in seen]
    chain, _ = home(hall, tree, [stood[mark] for mark in order])
    tables = chain.tables()
    looked = [_kept(tables, stood, sights, tree[spot][0]) for spot in spots_in(tree, room)]
    return (tables[len(seen):], looked)


def _marks_in(sights):
    """The marks of the sights, each once, in the order of the sights."""
    marks = []
    for mark, _ in sights:
        if mark not in marks:
            marks.append(mark)
    return marks


def _kept(tables, stood, sights, one):
    """The number of the first sight that isn't kept, or None, and what brings the marks seen there.

    The keys are those to which what sifts by the tables, then the arrangement, brings the marks from where they stood.
    """
    level = 0
    for number, (mark, place) in enumerate(sights):
        start = stood[mark]
        if level < len(tables) and tables[level][0] == start:
            fitting = [row for row in tables[level][1] if one[row[start]] == place]
            if not fitting:
                return (number, one)
            one = behind(fitting[0], one)
            level += 1
        elif one[start] != place:
            # This mark's place was told by a sight ahead.
            return (number, one)
    return (None, one)


def _showing(looked):
    """Of the split rooms in which all sights are kept, what brings the marks seen there."""
    return [one for number, one in looked if number is None]


def _fixed(stand, tables, one):
    """The sights that all keys show to which what sifts by the tables, then the arrangement, brings the stand's."""
    still = [
        place for place in range(len(one)) if all([row[place] == place for _, rows in tables for row in rows])
    ]
    return sorted([(int(stand[1][place]), one[place]) for place in still])
