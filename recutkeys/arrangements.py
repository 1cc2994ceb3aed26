"""Arrangements: what stands on place i comes to the place that the arrangement has at i."""

from math import lcm

from recutkeys.errors import NoText
from recutkeys.plain import is_pick, read_numbers


def is_arrangement(places, thing):
    """Whether anything is an arrangement of so many places."""
    return is_pick(thing, places, places)


def behind(one, other):
    """First the one, then the other."""
    return tuple([int(other[place]) for place in one])


def undone(one):
    """What brings all back."""
    back = [0] * len(one)
    for start, end in enumerate(one):
        back[end] = start
    return tuple(back)


def again(one, times):
    """The one, so many times behind itself; below 0 undone so often."""
    return _turned(len(one), rounds_of(one), times)


def rounds_of(one):
    """The rounds, each from its least place, rising by these."""
    rings = [_ring_from(one, start) for start in range(len(one))]
    return tuple([ring for start, ring in enumerate(rings) if len(ring) > 1 and start == min(ring)])


def how_often(one):
    """How often it is to be done, at least once, till nothing moves."""
    often = 1
    for ring in rounds_of(one):
        often = lcm(often, len(ring))
    return often


def is_even(one):
    """Whether an even number of its rounds have an even number of places."""
    return len([ring for ring in rounds_of(one) if len(ring) % 2 == 0]) % 2 == 0


def show_arrangement(one):
    """Its rounds as text; () where nothing moves."""
    rings = [" ".join([str(place) for place in ring]) for ring in rounds_of(one)]
    return "(" + ")(".join(rings) + ")"


def read_arrangement(places, text):
    """The arrangement of so many places that anything writes, or NoText."""
    if not isinstance(text, str):
        raise NoText(0)
    rings = _read_rings(places, text)
    if rings is None:
        raise NoText(0)
    one = _turned(places, rings, 1)
    # Rounds can be written in many ways, the brackets weren't looked at: only what is shown is its text.
    if show_arrangement(one) != text:
        raise NoText(0)
    return one


def _ring_from(one, start):
    """The places that come of a place, that one first, till it comes again."""
    ring = [start]
    place = int(one[start])
    while place != start:
        ring.append(place)
        place = int(one[place])
    return tuple(ring)


def _turned(places, rings, times):
    """The arrangement that moves each place so many places on in its ring."""
    moved = list(range(places))
    for ring in rings:
        for at, place in enumerate(ring):
            moved[place] = ring[(at + times) % len(ring)]
    return tuple(moved)


def _read_rings(places, text):
    """Rings of unlike places that a text in brackets writes, in whatever order; None where it writes none."""
    if text == "()":
        return []
    rings = [read_numbers(part.split(" "), places) for part in text[1:-1].split(")(")]
    if None in rings:
        return None
    every = [place for ring in rings for place in ring]
    return rings if len(set(every)) == len(every) else None
