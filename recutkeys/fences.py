"""Fences: what no way comes to, told so that it can be looked over without going any way."""

from recutkeys.arrangements import behind, is_arrangement, undone
from recutkeys.parts import home, tree_of
from recutkeys.plain import plain_numbers, plain_text
from recutkeys.stands import brings, is_split, split
from recutkeys.steps import exits, onward
from recutkeys.tables import are_tables, passes, sieve_of, sifts
from recutkeys.ways import played


def is_fence(hall, stand, thing):
    """Whether anything is a fence of the stand that is let by."""
    if not isinstance(thing, tuple) or len(thing) != 2:
        return False
    lot, tables = thing
    if not _is_lot(hall, lot) or not are_tables(hall.places(), tables):
        return False
    ones = {spot: one for spot, one in lot}
    if ones.get(split(hall, stand)) != tuple(range(hall.places())):
        return False
    return _is_shut(hall, ones, sieve_of(tables))


def bars(hall, stand, fence, other):
    """Whether a fence that is let by bars a stand."""
    lot, tables = fence
    spot = split(hall, other)
    ones = [one for inside, one in lot if inside == spot]
    if not ones:
        return True
    return not sifts(tables, behind(brings(stand[1], other[1]), undone(ones[0])))


def fence(hall, stand):
    """A fence that is let by and bars just what no way comes to."""
    tree = tree_of(hall, stand)
    chain, _ = home(hall, tree, list(range(hall.places())))
    return fence_by(tree, chain)


def fence_by(tree, chain):
    """The fence by the tree of a stand and the chain of its home arrangements."""
    return ([(spot, tree[spot][0]) for spot in sorted(tree)], chain.tables())


def walked(hall, stand, fence, way):
    """The fence of the stand behind a way that bars what the fence bars, or NoWay."""
    lot, tables = fence
    end = split(hall, played(hall, stand, way)[-1])
    # The end's own arrangement is taken off all, for there the new lot has the one that moves nothing.
    turn = [one for spot, one in lot if spot == end][0]
    back = undone(turn)
    spots = [((plain_text(room), plain_numbers(places)), one) for (room, places), one in lot]
    return (
        [(spot, behind(back, one)) for spot, one in spots],
        [(int(turn[place]), [behind(behind(back, row), turn) for row in rows]) for place, rows in tables],
    )


def _is_lot(hall, thing):
    """Whether anything is a list of unlike split rooms, each with an arrangement."""
    if not isinstance(thing, list) or not all([_is_post(hall, post) for post in thing]):
        return False
    return len(set([spot for spot, _ in thing])) == len(thing)


def _is_post(hall, thing):
    """Whether anything is a tuple of a split room and an arrangement."""
    if not isinstance(thing, tuple) or len(thing) != 2:
        return False
    return is_split(hall, thing[0]) and is_arrangement(hall.places(), thing[1])


def _is_shut(hall, ones, sieve):
    """Whether no step leads out of the lot, and what each one makes sifts."""
    leading = exits(hall)
    for spot, one in ones.items():
        for step, end, moves in onward(leading, spot):
            if end not in ones:
                return False
            # A step back undoes one forth, and what undoes what sifts, sifts: closed tables have it too.
            if step[1] == "forth" and not passes(sieve, behind(behind(one, moves), undone(ones[end]))):
                return False
    return True
