"""Places kept together by all that ways home make, told with joins that show why."""

from recutkeys.errors import NoWay
from recutkeys.parts import loops
from recutkeys.plain import is_whole, plain_numbers
from recutkeys.stands import brings, split
from recutkeys.ways import made, played


def together(hall, stand, one, other):
    """The finest parting with both places in one tuple that all home arrangements keep, and joins for it."""
    ways = loops(hall, stand)
    makers = [made(hall, stand, way) for way in ways]
    joins = [(*_rising(one, other), None, None)]
    heads = _linked(hall.places(), joins)
    at = 0
    # What an arrangement does to linked places follows from what it does to the joins, so each join is moved once.
    while at < len(joins):
        first, second, _, _ = joins[at]
        for way, moves in zip(ways, makers):
            if heads[moves[first]] != heads[moves[second]]:
                joins.append((moves[first], moves[second], at, way))
                heads = _linked(hall.places(), joins)
        at += 1
    return (_parted(heads), joins)


def is_together(hall, stand, one, other, thing):
    """Whether anything is a parting that all home arrangements keep, and joins of the two places that link just it."""
    if not isinstance(thing, tuple) or len(thing) != 2:
        return False
    parting, joins = thing
    if not _is_parting(parting) or not _are_joins(hall, stand, _rising(one, other), joins):
        return False
    heads = _linked(hall.places(), joins)
    makers = [made(hall, stand, way) for way in loops(hall, stand)]
    return parting == _parted(heads) and all([_keeps(moves, heads) for moves in makers])


def _rising(one, other):
    """Two places, the lesser first."""
    return plain_numbers(sorted([one, other]))


def _linked(places, joins):
    """For each place the least one that the joins link to it."""
    heads = list(range(places))
    for first, second, _, _ in joins:
        low, high = sorted([heads[first], heads[second]])
        heads = [low if head == high else head for head in heads]
    return heads


def _parted(heads):
    """The parting with those places together that have the same head."""
    every = list(range(len(heads)))
    return [tuple([place for place in every if heads[place] == head]) for head in every if heads[head] == head]


def _keeps(moves, heads):
    """Whether an arrangement brings places of one head to places of one head."""
    return all([heads[moves[place]] == heads[moves[head]] for place, head in enumerate(heads)])


def _is_parting(thing):
    """Whether anything is a list of tuples of whole numbers, as a parting is."""
    if not isinstance(thing, list) or not all([isinstance(group, tuple) for group in thing]):
        return False
    # Python takes truths for equal to numbers, so it isn't enough that a parting is equal to the right one.
    return all([is_whole(place) for group in thing for place in group])


def _are_joins(hall, stand, pair, thing):
    """Whether anything is a list of joins, the first one of the pair, each other one of one ahead of it."""
    if not isinstance(thing, list) or not all([_is_join(hall.places(), join) for join in thing]):
        return False
    if not thing or thing[0] != (*pair, None, None):
        return False
    return all([_does_come(hall, stand, thing, at) for at in range(1, len(thing))])


def _is_join(places, thing):
    """Whether anything is a tuple of two places and two things more."""
    if not isinstance(thing, tuple) or len(thing) != 4:
        return False
    return all([is_whole(place) and 0 <= place < places for place in thing[:2]])


def _does_come(hall, stand, joins, at):
    """Whether the join of this number comes of an earlier one by a way home."""
    first, second, origin, way = joins[at]
    if not is_whole(origin) or not 0 <= origin < at or not isinstance(way, (list, tuple)):
        return False
    try:
        end = played(hall, stand, way)[-1]
    except NoWay:
        return False
    if split(hall, end) != split(hall, stand):
        return False
    moves = brings(stand[1], end[1])
    return (moves[joins[origin][0]], moves[joins[origin][1]]) == (first, second)
