"""Lots of doors: which ones unasked let a stand be come to, which ones walled bar it, and papers that show it."""

from recutkeys.changes import unasked, walled
from recutkeys.fences import bars, fence, is_fence
from recutkeys.rows import comes_to, is_rows
from recutkeys.telling import way_to


def lots(hall, stand, other, word):
    """All least lots that do, and all greatest that don't, each rising."""
    told = _told(hall, stand, other, word)
    does = sorted([lot for lot in told if told[lot]])
    fails = sorted([lot for lot in told if not told[lot]])
    least = [lot for lot in does if not any([less != lot and _is_within(less, lot) for less in does])]
    greatest = [lot for lot in fails if not any([more != lot and _is_within(lot, more) for more in fails])]
    return (least, greatest)


def lot_paper(hall, stand, other, word, lot):
    """The paper of a lot: that it does, or that it doesn't."""
    changed = _changed(hall, word, lot)
    rows = way_to(changed, stand, other)
    paper = fence(changed, stand) if rows is None else rows
    return ("does" if (rows is None) == (word == "wall") else "not", paper)


def lot_holds(hall, stand, other, word, lot, thing):
    """Whether anything is a paper of the lot and holds."""
    if not isinstance(thing, tuple) or len(thing) != 2 or thing[0] not in ("does", "not"):
        return False
    told, paper = thing
    changed = _changed(hall, word, lot)
    # What is barred shows that walls do and that asks don't; what is come to, the other of each.
    if (told == "does") == (word == "wall"):
        return is_fence(changed, stand, paper) and bars(changed, stand, paper, other)
    return is_rows(paper) and comes_to(changed, stand, paper, other)


def covers(names, does, fails):
    """Whether each lot of the names has one of the first within it or is within one of the second, and none both."""
    return all([
        any([_is_within(less, lot) for less in does]) != any([_is_within(lot, more) for more in fails])
        for lot in _lots_of(names)
    ])


def _told(hall, stand, other, word):
    """By each lot of the doors in question whether it does."""
    names = [name for name in hall.doors() if word == "wall" or hall.door(name)[3]]
    # From the middling ones the most others follow: what a lot does, each greater one does.
    every = sorted(_lots_of(names), key=lambda some: abs(2 * len(some) - len(names)))
    told = {}
    for lot in every:
        if lot in told:
            continue
        barred = way_to(_changed(hall, word, lot), stand, other) is None
        does = barred == (word == "wall")
        for near in every:
            less, more = (lot, near) if does else (near, lot)
            if _is_within(less, more):
                told[near] = does
    return told


def _changed(hall, word, lot):
    """The hall with the doors of a lot unasked or walled."""
    for name in lot:
        hall = unasked(hall, name) if word == "ask" else walled(hall, name)
    return hall


def _lots_of(names):
    """All lots of some names, the empty one, too."""
    found = [()]
    for name in names:
        found = found + [(*lot, name) for lot in found]
    return found


def _is_within(lot, other):
    """Whether all of a lot is in the other one."""
    return all([name in other for name in lot])
