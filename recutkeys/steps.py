"""Steps through a hall's doors."""

from recutkeys.arrangements import behind, undone
from recutkeys.errors import NoStep
from recutkeys.plain import is_name
from recutkeys.stands import split

# In their rising order, so that steps told by them rise, too.
SIDES = ("back", "forth")


def steps(hall, stand):
    """The steps that can be done at a stand, rising."""
    spot = split(hall, stand)
    every = [(door, side) for door in hall.doors() for side in SIDES]
    return [step for step in every if why_not(hall, spot, step) is None]


def done(hall, stand, step):
    """The stand behind a step, of anything, or NoStep."""
    (room, _), moves = led(hall, split(hall, stand), step)
    return (room, behind(undone(moves), stand[1]))


def led(hall, spot, step):
    """The split room behind a step, of anything, from a split room, and what the step moves, or NoStep."""
    why = why_not(hall, spot, step)
    if why is not None:
        raise NoStep(why)
    _, room, moves, _ = _passage(hall, step)
    return ((room, behind(spot[1], moves)), moves)


def exits(hall):
    """For each room the steps that lead from it, rising: each with the room behind it, what it moves and asks."""
    leading = {room: [] for room in hall.rooms()}
    watched = hall.watched()
    for door in hall.doors():
        for side in SIDES:
            room, end, moves, asks = _passage(hall, (door, side))
            # Where the watched mark is in a split room's places, so that it needn't be looked for at each of these.
            asked = [(watched.index(mark), place) for mark, place in asks]
            leading[room].append(((door, side), end, moves, asked))
    return leading


def onward(leading, spot):
    """By the exits of a hall the steps that can be done at a split room: each with the one behind it, what it moves."""
    room, places = spot
    return [
        (step, (end, behind(places, moves)), moves)
        for step, end, moves, asked in leading[room]
        if all([places[at] == place for at, place in asked])
    ]


def is_step(thing):
    """Whether anything is a tuple of a name and one of the two words."""
    return isinstance(thing, tuple) and len(thing) == 2 and is_name(thing[0]) and thing[1] in SIDES


def why_not(hall, spot, step):
    """Why a step, of anything, can't be done at a split room; None where it can."""
    if not is_step(step):
        return "form"
    if step[0] not in hall.doors():
        return "door"
    room, _, _, asks = _passage(hall, step)
    if room != spot[0]:
        return "room"
    stood = dict(zip(hall.watched(), spot[1]))
    if any([stood[mark] != place for mark, place in asks]):
        return "asked"
    return None


def _passage(hall, step):
    """From which room to which a step leads, what it moves, and what it asks."""
    name, side = step
    one, other, cut, asks = hall.door(name)
    if side == "forth":
        return (one, other, cut, asks)
    return (other, one, undone(cut), tuple([(mark, cut[place]) for mark, place in asks]))
