"""Parts of split halls: what can be come to from a stand, and the ways home."""

from recutkeys.arrangements import behind, undone
from recutkeys.errors import NoPart
from recutkeys.stands import is_split, split
from recutkeys.steps import exits, onward
from recutkeys.tables import Chain
from recutkeys.ways import way_back


def part(hall, stand):
    """All split rooms that can be come to, rising."""
    return sorted(tree_of(hall, stand))


def tree_way(hall, stand, spot):
    """A way of fewest steps to a split room, of anything, of the part, or NoPart."""
    # What is no split room may be no key of a dict, so it is not looked up.
    if not is_split(hall, spot):
        raise NoPart(spot)
    tree = tree_of(hall, stand)
    if spot not in tree:
        raise NoPart(spot)
    return climbed(tree, spot)


def loops(hall, stand):
    """Ways home that make, one behind another and undone, all home arrangements."""
    _, ways = home(hall, tree_of(hall, stand), list(range(hall.places())))
    return ways


def tree_of(hall, stand):
    """By each split room of the part: what its tree way makes, the last split room ahead of it, the last step."""
    first = split(hall, stand)
    tree = {first: (tuple(range(hall.places())), None, None)}
    leading = exits(hall)
    edge = [first]
    while edge:
        edge = _widened(leading, tree, edge)
    return tree


def climbed(tree, spot):
    """The tree way to a split room of the tree."""
    way = []
    _, ahead, step = tree[spot]
    while ahead is not None:
        way.append(step)
        _, ahead, step = tree[ahead]
    return tuple(way[::-1])


def home(hall, tree, order):
    """The home arrangements as a chain by this order of places, and the loops that it took."""
    leading = exits(hall)
    chain = Chain(order)
    ways = []
    for spot in tree:
        for step, end, moves in onward(leading, spot):
            # A step back is a step forth of another split room undone: it makes nothing more.
            if step[1] == "back":
                continue
            one = behind(behind(tree[spot][0], moves), undone(tree[end][0]))
            if not chain.holds(one):
                way = climbed(tree, spot) + (step,) + way_back(climbed(tree, end))
                chain.take(one, list(way))
                ways.append(way)
    return (chain, ways)


def _widened(leading, tree, edge):
    """Puts into the tree what is a step behind its edge and not in it: the new edge."""
    further = []
    for spot in edge:
        for step, end, moves in onward(leading, spot):
            if end not in tree:
                tree[end] = (behind(tree[spot][0], moves), spot, step)
                further.append(end)
    return further
