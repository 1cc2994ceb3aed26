"""Ways in rows to stands, and full papers, by which others can see what can be come to."""

from recutkeys.arrangements import behind, undone
from recutkeys.errors import NoWay
from recutkeys.fences import fence_by, is_fence
from recutkeys.parts import climbed, home, tree_of
from recutkeys.plain import is_whole
from recutkeys.rows import gone_by, is_rows
from recutkeys.stands import brings, split


def way_to(hall, stand, other):
    """A way in rows to the other stand, or None."""
    tree = tree_of(hall, stand)
    spot = split(hall, other)
    if spot not in tree:
        return None
    chain, _ = home(hall, tree, list(range(hall.places())))
    # First home as another arrangement, then the tree way: whatever comes there is made so.
    parts = chain.spelled(behind(brings(stand[1], other[1]), undone(tree[spot][0])))
    if parts is None:
        return None
    return _needed([*chain.makings, parts + list(climbed(tree, spot))])


def full(hall, stand):
    """A full paper of a stand."""
    tree = tree_of(hall, stand)
    chain, _ = home(hall, tree, list(range(hall.places())))
    lot, tables = fence_by(tree, chain)
    lot_ways = [[list(climbed(tree, spot))] for spot, _ in lot]
    table_ways = [[_needed([*chain.makings, chain.spelled(row)]) for row in rows] for _, rows in tables]
    return ((lot, tables), lot_ways, table_ways)


def is_full(hall, stand, thing):
    """Whether anything is a full paper of the stand that is let by."""
    if not isinstance(thing, tuple) or len(thing) != 3:
        return False
    paper, lot_ways, table_ways = thing
    if not is_fence(hall, stand, paper):
        return False
    lot, tables = paper
    spot = split(hall, stand)
    if not _all_end(hall, spot, lot_ways, lot):
        return False
    if not isinstance(table_ways, list) or len(table_ways) != len(tables):
        return False
    ends = [[(spot, row) for row in rows] for _, rows in tables]
    return all([_all_end(hall, spot, ways, homes) for ways, homes in zip(table_ways, ends)])


def _needed(rows):
    """The rows that the last one needs, numbered anew, in lists of their own."""
    needed = {len(rows) - 1: True}
    for number in reversed(range(len(rows))):
        if number in needed:
            needed.update({head: True for head, _ in rows[number] if is_whole(head)})
    kept = sorted(needed)
    anew = {old: at for at, old in enumerate(kept)}
    # A door's name is no number, so it stays.
    return [[(anew.get(head, head), side) for head, side in rows[old]] for old in kept]


def _all_end(hall, spot, thing, ends):
    """Whether anything is a list of ways in rows from a split room, one to each end, making just what it has."""
    if not isinstance(thing, list) or len(thing) != len(ends):
        return False
    known = {}
    return all([_does_end(hall, known, spot, rows, end) for rows, end in zip(thing, ends)])


def _does_end(hall, known, spot, thing, end):
    """Whether anything is a way in rows that leads to the end's split room and makes the end's arrangement."""
    if not is_rows(thing):
        return False
    try:
        return gone_by(hall, known, spot, thing) == end
    except NoWay:
        return False
