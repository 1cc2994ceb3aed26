"""Walks: a hall lived in, act by act, of which the last ones can be taken back and done again."""

from recutkeys.changes import reasked, recut, unasked, walled, with_doors
from recutkeys.counts import many_stands
from recutkeys.errors import NoMoment, NoMore
from recutkeys.halls import doors_of
from recutkeys.plain import is_whole, plain_numbers, plain_text
from recutkeys.steps import done
from recutkeys.telling import way_to


class Walk:
    """A walk through a hall that changes, from a first stand."""

    def __init__(self, hall, stand):
        room, key = stand
        # The hall and the stand of each moment: one more than there are acts, those taken back among them.
        self._halls = [_copied(hall)]
        self._stands = [(plain_text(room), plain_numbers(key))]
        self._acts = []
        self._now = 0

    def __eq__(self, other):
        return (
            isinstance(other, Walk)
            and self._halls[0] == other._halls[0]
            and self._stands[0] == other._stands[0]
            and self._acts[:self._now] == other._acts[:other._now]
        )

    def do(self, step):
        """Do a step, of anything, or NoStep."""
        hall = self._halls[self._now]
        stand = done(hall, self._stands[self._now], step)
        door, side = step
        self._go_on(("do", (plain_text(door), plain_text(side))), hall, stand)

    def wall(self, door):
        """Take a door, of anything, out of the hall, or NoName."""
        self._change(walled(self._halls[self._now], door), ("wall", plain_text(door)))

    def unask(self, door):
        """Take the asks off a door, of anything, or NoName."""
        self._change(unasked(self._halls[self._now], door), ("unask", plain_text(door)))

    def recut(self, door, cut):
        """Give another cut to a door, of anything, or NoName."""
        self._change(recut(self._halls[self._now], door, cut), ("recut", plain_text(door), plain_numbers(cut)))

    def ask(self, door, asks):
        """Give other asks to a door, of anything, or NoName."""
        hall = reasked(self._halls[self._now], door, asks)
        self._change(hall, ("ask", plain_text(door), hall.door(door)[3]))

    def acts(self):
        """The acts done, tuples."""
        return self._acts[:self._now]

    def hall_at(self, *, moment=None):
        """The hall when so many acts, of anything, were done, None: as it is now; or NoMoment."""
        return _copied(self._halls[self._number(moment)])

    def stand_at(self, *, moment=None):
        """The stand when so many acts, of anything, were done, None: as it is now; or NoMoment."""
        return self._stands[self._number(moment)]

    def back(self):
        """Take the last act back, and tell it; or NoMore."""
        if self._now == 0:
            raise NoMore("back")
        self._now -= 1
        return self._acts[self._now]

    def on(self):
        """Do the act again that was taken back last, and tell it; or NoMore."""
        if self._now == len(self._acts):
            raise NoMore("on")
        self._now += 1
        return self._acts[self._now - 1]

    def can(self, other):
        """Whether the other stand can be come to from here."""
        return self._way_to(other) is not None

    def many(self):
        """How many stands can be come to from here."""
        return many_stands(self._halls[self._now], self._stands[self._now])

    def way_home(self):
        """A way in rows to the first stand, None where there is none any more."""
        return self._way_to(self._stands[0])

    def _way_to(self, other):
        """A way in rows from here to the other stand, or None."""
        return way_to(self._halls[self._now], self._stands[self._now], other)

    def _change(self, hall, act):
        """Go on by an act that changes the hall; the stand stays."""
        self._go_on(act, hall, self._stands[self._now])

    def _go_on(self, act, hall, stand):
        """Put an act that can be done behind those done, and let go what was taken back."""
        del self._acts[self._now:]
        self._acts.append(act)
        self._now += 1
        del self._halls[self._now:]
        self._halls.append(hall)
        del self._stands[self._now:]
        self._stands.append(stand)

    def _number(self, moment):
        """The number of a moment, of anything, None: of the present one; or NoMoment."""
        if moment is None:
            return self._now
        if not is_whole(moment) or not 0 <= moment <= self._now:
            raise NoMoment(moment)
        return moment


def _copied(hall):
    """A new hall that is equal."""
    return with_doors(hall, doors_of(hall))
