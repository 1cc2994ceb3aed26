"""Walks as text, and read from it."""

from recutkeys.arrangements import is_arrangement
from recutkeys.errors import NoName, NoStep, NoText
from recutkeys.halltexts import read_asks, read_front, row_of, show_hall
from recutkeys.plain import read_numbers
from recutkeys.stands import is_stand
from recutkeys.walk import Walk


def show_walk(walk):
    """The journal of a walk: its first hall, its first stand, the acts done."""
    room, key = walk.stand_at(moment=0)
    rows = [show_hall(walk.hall_at(moment=0)), row_of(["at", room, *key])]
    rows.extend([_show_act(act) for act in walk.acts()])
    return "\n".join(rows)


def read_walk(text):
    """The walk that anything writes, or NoText."""
    if not isinstance(text, str):
        raise NoText(0)
    rows = text.split("\n")
    hall, many = read_front(rows)
    stand = _read_stand(hall, rows[many]) if many < len(rows) else None
    if stand is None:
        raise NoText(many)
    walk = Walk(hall, stand)
    for row in range(many + 1, len(rows)):
        act = _read_act(hall, rows[row])
        if act is None or not _could_act(walk, act):
            raise NoText(row)
    return walk


def _show_act(act):
    """The row of an act."""
    if act[0] == "do":
        return row_of(["do", *act[1]])
    if act[0] == "recut":
        return row_of(["recut", act[1], *act[2]])
    if act[0] == "ask":
        return row_of(["ask", act[1], *[number for ask in act[2] for number in ask]])
    return row_of(act)


def _read_stand(hall, row):
    """The stand that the row writes, or None."""
    words = row.split(" ")
    if len(words) < 2 or words[0] != "at":
        return None
    stand = (words[1], read_numbers(words[2:], hall.places()))
    return stand if is_stand(hall, stand) else None


def _read_act(hall, row):
    """The act that the row writes, as far as can be told by places and watched marks, or None."""
    words = row.split(" ")
    if words[0] == "do" and len(words) == 3:
        return ("do", (words[1], words[2]))
    if words[0] in ("wall", "unask") and len(words) == 2:
        return (words[0], words[1])
    if words[0] == "recut":
        cut = read_numbers(words[2:], hall.places())
        return ("recut", words[1], cut) if is_arrangement(hall.places(), cut) else None
    if words[0] == "ask" and len(words) > 1:
        asks = read_asks(hall.places(), hall.watched(), words[2:])
        return None if asks is None else ("ask", words[1], asks)
    return None


def _could_act(walk, act):
    """Whether the act could be done; then it is."""
    try:
        if act[0] == "do":
            walk.do(act[1])
        elif act[0] == "wall":
            walk.wall(act[1])
        elif act[0] == "unask":
            walk.unask(act[1])
        elif act[0] == "recut":
            walk.recut(act[1], act[2])
        else:
            walk.ask(act[1], act[2])
    except (NoStep, NoName):
        return False
    return True
