"""Changed halls, each a new one: doors walled, unasked, recut, asked otherwise; all named or numbered anew; joined."""

from recutkeys.arrangements import behind, undone
from recutkeys.halls import Hall, doors_of
from recutkeys.plain import plain_numbers, plain_text


def walled(hall, door):
    """The hall without a door, of anything, or NoName."""
    # Asked for what isn't there, the hall itself refuses.
    hall.door(door)
    return with_doors(hall, [kept for kept in doors_of(hall) if kept[0] != door])


def unasked(hall, door):
    """The hall with no asks of a door, of anything, or NoName."""
    return reasked(hall, door, ())


def recut(hall, door, cut):
    """The hall with another cut of a door, of anything, or NoName."""
    one, other, _, asks = hall.door(door)
    return _with_door(hall, (door, one, other, cut, asks))


def reasked(hall, door, asks):
    """The hall with other asks of a door, of anything, or NoName."""
    one, other, cut, _ = hall.door(door)
    return _with_door(hall, (door, one, other, cut, asks))


def renamed(hall, names):
    """The hall with other names; what isn't among them keeps its own."""
    rooms = [names.get(room, room) for room in hall.rooms()]
    doors = [
        (names.get(name, name), names.get(one, one), names.get(other, other), cut, asks)
        for name, one, other, cut, asks in doors_of(hall)
    ]
    return Hall(hall.places(), hall.watched(), rooms, doors)


def renamed_stand(names, stand):
    """The stand in a hall with other names."""
    room, key = stand
    return (plain_text(names.get(room, room)), plain_numbers(key))


def marks_turned(hall, marks):
    """The hall with each mark the one that the arrangement has at it."""
    doors = [
        (name, one, other, cut, [(marks[mark], place) for mark, place in asks])
        for name, one, other, cut, asks in doors_of(hall)
    ]
    return Hall(hall.places(), behind(hall.watched(), marks), hall.rooms(), doors)


def marks_turned_stand(marks, stand):
    """The stand in a hall with its marks so turned."""
    room, key = stand
    return (plain_text(room), behind(key, marks))


def places_turned(hall, places):
    """The hall with all of each place at the one to which the arrangement brings it."""
    back = undone(places)
    doors = [
        (name, one, other, behind(behind(back, cut), places), [(mark, places[place]) for mark, place in asks])
        for name, one, other, cut, asks in doors_of(hall)
    ]
    return with_doors(hall, doors)


def places_turned_stand(places, stand):
    """The stand in a hall with its places so turned."""
    room, key = stand
    return (plain_text(room), behind(undone(places), key))


def joined(one, other, door):
    """A hall with all rooms and doors of both, and one door more."""
    doors = doors_of(one) + doors_of(other) + [door]
    return Hall(one.places(), one.watched(), one.rooms() + other.rooms(), doors)


def with_doors(hall, doors):
    """A hall with these doors, and all else as in the one."""
    return Hall(hall.places(), hall.watched(), hall.rooms(), doors)


def _with_door(hall, door):
    """A hall with this door, but none else of its name."""
    return with_doors(hall, [kept for kept in doors_of(hall) if kept[0] != door[0]] + [door])
