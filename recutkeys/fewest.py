"""Fewest steps to a stand, told with numbers that show that no way is shorter."""

from recutkeys.arrangements import behind, undone
from recutkeys.bounds import MOST_SPOTS
from recutkeys.counts import many_stands
from recutkeys.errors import NoWay, TooMany
from recutkeys.plain import is_whole, plain_numbers, plain_text
from recutkeys.stands import is_stand, split
from recutkeys.steps import exits, onward
from recutkeys.telling import way_to
from recutkeys.ways import played


def fewest(hall, stand, other, *, most=MOST_SPOTS):
    """The fewest steps to the other stand and a way of so many, None where none comes there; or TooMany."""
    _see_many(hall, stand, most)
    # Looked for ahead, so that not all stands are gone through where the wanted one is near or isn't there.
    if way_to(hall, stand, other) is None:
        return None
    way = _climbed(_found(hall, stand, other), other)
    return (len(way), way)


def fewest_paper(hall, stand, other, *, most=MOST_SPOTS):
    """A paper of the fewest steps to the other stand, or TooMany."""
    _see_many(hall, stand, most)
    found = _found(hall, stand, None)
    numbers = [(near, number) for near, (number, _, _) in found.items()]
    if other not in found:
        return (None, numbers)
    return (_climbed(found, other), numbers)


def is_fewest(hall, stand, other, thing):
    """Whether anything is a paper of the fewest steps to the other stand."""
    if not isinstance(thing, tuple) or len(thing) != 2:
        return False
    way, listed = thing
    if not isinstance(listed, list) or not all([_is_numbered(hall, numbered) for numbered in listed]):
        return False
    numbers = {near: number for near, number in listed}
    if len(numbers) != len(listed) or numbers.get(stand) != 0 or not _are_low(hall, numbers):
        return False
    if other not in numbers:
        return way is None
    return _does_come(hall, stand, other, way, numbers[other])


def _see_many(hall, stand, most):
    """See that no more stands can be come to than that, or TooMany."""
    if many_stands(hall, stand) > most:
        raise TooMany(most)


def _found(hall, stand, wanted):
    """By each stand that is come to, round by round till the wanted one is: its number, the one ahead, the step."""
    first = (plain_text(stand[0]), plain_numbers(stand[1]))
    found = {first: (0, None, None)}
    leading = exits(hall)
    edge = [first]
    while edge and wanted not in found:
        edge = _widened(hall, leading, found, edge)
    return found


def _widened(hall, leading, found, edge):
    """Puts among the found what is a step behind the edge and not there yet: the new edge."""
    further = []
    for near in edge:
        for step, far in _onward_from(hall, leading, near):
            if far not in found:
                found[far] = (found[near][0] + 1, near, step)
                further.append(far)
    return further


def _onward_from(hall, leading, stand):
    """By the exits of a hall the steps that can be done at a stand, each with the one behind it."""
    return [
        (step, (end[0], behind(undone(moves), stand[1])))
        for step, end, moves in onward(leading, split(hall, stand))
    ]


def _climbed(found, stand):
    """The way to a stand that is found."""
    way = []
    _, ahead, step = found[stand]
    while ahead is not None:
        way.append(step)
        _, ahead, step = found[ahead]
    return tuple(way[::-1])


def _is_numbered(hall, thing):
    """Whether anything is a tuple of a stand and a whole number from 0 on."""
    if not isinstance(thing, tuple) or len(thing) != 2:
        return False
    return is_stand(hall, thing[0]) and is_whole(thing[1]) and thing[1] >= 0


def _are_low(hall, numbers):
    """Whether each step leads to a stand that has a number, of at most one more."""
    leading = exits(hall)
    for near, number in numbers.items():
        for _, far in _onward_from(hall, leading, near):
            if far not in numbers or numbers[far] > number + 1:
                return False
    return True


def _does_come(hall, stand, other, thing, number):
    """Whether anything is a way of so many steps to the other stand."""
    if not isinstance(thing, (list, tuple)) or len(thing) != number:
        return False
    try:
        return played(hall, stand, thing)[-1] == other
    except NoWay:
        return False
