"""Ways in rows: each row has steps and parts, a part stands for an earlier row, gone forth or back."""

from recutkeys.arrangements import behind
from recutkeys.bounds import MOST_ROWS, MOST_SPOTS
from recutkeys.errors import NoStep, NoWay, TooMany
from recutkeys.plain import is_whole, plain_numbers, plain_text
from recutkeys.stands import brings, split
from recutkeys.steps import SIDES, is_step, led
from recutkeys.ways import OTHER_SIDES


class Reading:
    """A row being read from a split room: how far one has come in it, and what is made till there."""

    def __init__(self, hall, asked, row):
        # The row's number, the side, the split room from which it is read.
        self.asked = asked
        self.row = row
        self.read = 0
        self.end = asked[2]
        self.made = tuple(range(hall.places()))
        self.many = 0

    def go_on(self, found, many):
        """Pass the next item: its end and what it makes are found, it has so many steps."""
        self.end, moves = found
        self.made = behind(self.made, moves)
        self.many += many
        self.read += 1


def is_rows(thing):
    """Whether anything is a way in rows."""
    if not isinstance(thing, list) or not 1 <= len(thing) <= MOST_ROWS:
        return False
    return all([_is_row(number, row) for number, row in enumerate(thing)])


def many_steps(rows):
    """How many steps a way in rows has."""
    return _lengths(rows)[-1]


def unrolled(rows, *, most=MOST_SPOTS):
    """The way of all its steps, or TooMany."""
    if many_steps(rows) > most:
        raise TooMany(most)
    short = _shortened(rows)
    way = []
    # The items still to be gone through, the next one last.
    ahead = [(len(rows) - 1, "forth")]
    while ahead:
        head, side = ahead.pop()
        if is_whole(head):
            ahead.extend(_sided(short[head], side)[::-1])
        else:
            way.append((plain_text(head), plain_text(side)))
    return tuple(way)


def gone(hall, spot, rows):
    """The split room to which a way in rows leads from one, and what it made, or NoWay."""
    return gone_by(hall, {}, spot, rows)


def gone_by(hall, known, spot, rows):
    """As gone; known are steps by split rooms, as far as earlier ways of the hall went through them."""
    lengths = _lengths(rows)
    read = {}
    first = (plain_text(spot[0]), plain_numbers(spot[1]))
    # Each reading but the first is of a part in the one ahead of it.
    readings = [Reading(hall, (len(rows) - 1, "forth", first), rows[-1])]
    while True:
        reading = readings[-1]
        if reading.read == len(reading.row):
            read[reading.asked] = (reading.end, reading.made)
            readings.pop()
            if not readings:
                return (reading.end, reading.made)
        elif is_whole(reading.row[reading.read][0]):
            _read_part(hall, rows, lengths, read, readings)
        else:
            _read_step(hall, known, readings)


def comes_to(hall, stand, rows, other):
    """Whether a way in rows comes to the other stand from the first one."""
    try:
        end, moves = gone(hall, split(hall, stand), rows)
    except NoWay:
        return False
    return end == split(hall, other) and moves == brings(stand[1], other[1])


def _is_row(number, thing):
    """Whether anything is a row of this number of a way in rows."""
    return isinstance(thing, list) and all([is_step(item) or _is_part(number, item) for item in thing])


def _is_part(number, thing):
    """Whether anything is a part in a row of this number."""
    if not isinstance(thing, tuple) or len(thing) != 2:
        return False
    return is_whole(thing[0]) and 0 <= thing[0] < number and thing[1] in SIDES


def _lengths(rows):
    """How many steps each row has."""
    lengths = []
    for row in rows:
        lengths.append(sum([lengths[head] if is_whole(head) else 1 for head, _ in row]))
    return lengths


def _sided(row, side):
    """The items of a row as they are gone through on a side."""
    if side == "forth":
        return row
    return [(head, OTHER_SIDES[turned]) for head, turned in reversed(row)]


def _shortened(rows):
    """The rows without parts that have no steps, and without detours over rows of one part alone."""
    # So each item that is gone through in unrolling has a step of its own or parts the way in two.
    lengths = _lengths(rows)
    short = []
    for row in rows:
        items = [item for item in row if not is_whole(item[0]) or lengths[item[0]] > 0]
        short.append([item for long in items for item in _straight(short, long)])
    return short


def _straight(short, item):
    """An item, but the one item of its row where it is a part of a row with just one."""
    head, side = item
    if is_whole(head) and len(short[head]) == 1:
        return _sided(short[head], side)
    return [item]


def _read_part(hall, rows, lengths, read, readings):
    """Pass the next item, a part, where its row is read from here already; else begin to read that."""
    reading = readings[-1]
    head, side = reading.row[reading.read]
    asked = (head, side, reading.end)
    if asked in read:
        reading.go_on(read[asked], lengths[head])
    else:
        readings.append(Reading(hall, asked, _sided(rows[head], side)))


def _read_step(hall, known, readings):
    """Pass the next item, a step, or NoWay."""
    reading = readings[-1]
    step = reading.row[reading.read]
    asked = (*step, reading.end)
    if asked not in known:
        try:
            known[asked] = led(hall, reading.end, step)
        except NoStep as refusal:
            ahead = sum([outer.many for outer in readings])
            raise NoWay(ahead, refusal.why) from None
    reading.go_on(known[asked], 1)
