"""Ways: steps done one behind the other."""

from recutkeys.errors import NoStep, NoText, NoWay
from recutkeys.plain import plain_numbers, plain_text
from recutkeys.stands import brings
from recutkeys.steps import done, is_step

OTHER_SIDES = {"forth": "back", "back": "forth"}


def played(hall, stand, way):
    """The stands that a way goes through, the first one among them, or NoWay."""
    room, key = stand
    stands = [(plain_text(room), plain_numbers(key))]
    for at, step in enumerate(way):
        stands.append(_stand_behind(hall, stands[-1], at, step))
    return stands


def made(hall, stand, way):
    """What all steps of a way make one behind the other, or NoWay."""
    # All that moves a key are the steps' cuts, so first and last key tell what they made.
    return brings(stand[1], played(hall, stand, way)[-1][1])


def way_back(way):
    """The steps from the last one to the first, each from its other side."""
    return tuple([(plain_text(door), OTHER_SIDES[side]) for door, side in reversed(way)])


def show_way(way):
    """The text of a way."""
    return ", ".join([f"{door} {side}" for door, side in way])


def read_way(text):
    """The way that anything writes, or NoText."""
    if not isinstance(text, str):
        raise NoText(0)
    # The empty way's text has no part at all, though it parts into one without signs.
    if text == "":
        return ()
    way = []
    for row, part in enumerate(text.split(", ")):
        step = tuple(part.split(" "))
        if not is_step(step):
            raise NoText(row)
        way.append(step)
    return tuple(way)


def _stand_behind(hall, stand, at, step):
    """The stand behind the step of this place in a way, or NoWay."""
    try:
        return done(hall, stand, step)
    except NoStep as refusal:
        raise NoWay(at, refusal.why) from None
