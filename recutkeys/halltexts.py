"""Halls as text, and read from it."""

from recutkeys.arrangements import is_arrangement
from recutkeys.bounds import MOST_DOORS, MOST_PLACES, MOST_ROOMS, MOST_WATCHED
from recutkeys.errors import NoText
from recutkeys.halls import Hall
from recutkeys.plain import is_name, is_rising, read_numbers

LEAST_PLACES = 2


def show_hall(hall):
    """The text of a hall."""
    rows = [f"places {hall.places()}", row_of(["watched", *hall.watched()])]
    rows.extend([f"room {room}" for room in hall.rooms()])
    rows.extend([_show_door(hall, name) for name in hall.doors()])
    return "\n".join(rows)


def read_hall(text):
    """The hall that anything writes, or NoText."""
    if not isinstance(text, str):
        raise NoText(0)
    rows = text.split("\n")
    hall, many = read_front(rows)
    if many < len(rows):
        raise NoText(many)
    return hall


def read_front(rows):
    """The hall that the first rows write, as far as they write one, and how many these are; or NoText."""
    places = _read_places(rows[0])
    if places is None:
        raise NoText(0)
    watched = _read_watched(places, rows[1]) if len(rows) > 1 else None
    if watched is None:
        raise NoText(1)
    rooms = _read_rooms(rows[2:])
    if not rooms:
        raise NoText(2)
    doors = _read_doors(places, watched, rooms, rows[2 + len(rooms):])
    return (Hall(places, watched, rooms, doors), 2 + len(rooms) + len(doors))


def read_asks(places, watched, words):
    """The asks of these watched marks that the words write, or None."""
    numbers = read_numbers(words, places)
    if numbers is None or len(numbers) % 2 == 1:
        return None
    marks = numbers[::2]
    if not is_rising(marks) or not all([mark in watched for mark in marks]):
        return None
    return tuple(zip(marks, numbers[1::2]))


def row_of(words):
    """Texts and numbers with one blank between each two."""
    return " ".join([str(word) for word in words])


def _show_door(hall, name):
    """The row of a door."""
    one, other, cut, asks = hall.door(name)
    asked = [number for ask in asks for number in ask]
    return row_of(["door", name, one, other, *cut, "asks", *asked])


def _read_places(row):
    """How many places the row writes, or None."""
    words = row.split(" ")
    if len(words) != 2 or words[0] != "places":
        return None
    numbers = read_numbers(words[1:], MOST_PLACES + 1)
    if numbers is None or numbers[0] < LEAST_PLACES:
        return None
    return numbers[0]


def _read_watched(places, row):
    """The watched marks that the row writes, or None."""
    words = row.split(" ")
    if words[0] != "watched" or len(words) > MOST_WATCHED + 1:
        return None
    marks = read_numbers(words[1:], places)
    if marks is None or not is_rising(marks):
        return None
    return marks


def _read_rooms(rows):
    """The rooms that the first rows write, as far as they write rooms of one hall."""
    rooms = []
    for row in rows[:MOST_ROOMS]:
        words = row.split(" ")
        if len(words) != 2 or words[0] != "room" or not is_name(words[1]):
            return rooms
        if not is_rising([*rooms[-1:], words[1]]):
            return rooms
        rooms.append(words[1])
    return rooms


def _read_doors(places, watched, rooms, rows):
    """The doors that the first rows write, as far as they write doors of one hall."""
    doors = []
    for row in rows[:MOST_DOORS]:
        door = _read_door(places, watched, rooms, row)
        if door is None or (doors and doors[-1][0] >= door[0]):
            return doors
        doors.append(door)
    return doors


def _read_door(places, watched, rooms, row):
    """The door, between these rooms, that the row writes, or None."""
    words = row.split(" ")
    # A door may be called asks, so that word is looked for just where it belongs.
    middle = 4 + places
    if len(words) <= middle or words[0] != "door" or words[middle] != "asks":
        return None
    name, one, other = words[1:4]
    if not is_name(name) or name in rooms or one not in rooms or other not in rooms:
        return None
    cut = read_numbers(words[4:middle], places)
    asks = read_asks(places, watched, words[middle + 1:])
    if not is_arrangement(places, cut) or asks is None:
        return None
    return (name, one, other, cut, asks)
