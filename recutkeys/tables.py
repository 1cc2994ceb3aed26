"""Tables, by which it is told of an arrangement whether others make it, without listing what these make."""

from recutkeys.arrangements import behind, is_arrangement, undone
from recutkeys.plain import is_whole, plain_numbers


class Chain:
    """Closed tables that grow, and of what each of their rows is made."""

    def __init__(self, order):
        nothing = tuple(range(len(order)))
        self.sieve = [(place, {place: nothing}) for place in plain_numbers(order)]
        # What makes an arrangement: parts, each the number of an earlier making and a side, as in ways in rows;
        # of what was taken, what the taker says.
        self.makings = []
        # The rows but those that move nothing: (table, row, number of its making), and how many are multiplied.
        self.found = []
        self.multiplied = 0
        # By a table's place and where a row brings it: the number of the row's making.
        self.numbers = {}

    def holds(self, one):
        """Whether an arrangement sifts."""
        return passes(self.sieve, one)

    def take(self, one, making):
        """Grow, where it doesn't sift, by an arrangement and all that it makes with what sifts."""
        if self.holds(one):
            return
        self.makings.append(making)
        self._keep(one, [(len(self.makings) - 1, "forth")])
        while self.multiplied < len(self.found):
            self.multiplied += 1
            self._multiply(self.found[:self.multiplied])

    def tables(self):
        """The tables, in order."""
        return [(place, [undone(back) for back in backs.values()]) for place, backs in self.sieve]

    def spelled(self, one):
        """Parts of the makings that make an arrangement; None where it doesn't sift."""
        if not self.holds(one):
            return None
        images, _ = sift(self.sieve, one)
        return [(number, "forth") for number in reversed(self._passed(images))]

    def _multiply(self, rows):
        """See that the last one of the rows, with each one up to it, sifts."""
        level, row, number = rows[-1]
        for other_level, other, other_number in rows:
            # Closed are tables by rows with others of their own or of later tables.
            if level <= other_level:
                self._keep(behind(row, other), [(number, "forth"), (other_number, "forth")])
            if other_level <= level:
                self._keep(behind(other, row), [(other_number, "forth"), (number, "forth")])

    def _keep(self, one, parts):
        """What is left of an arrangement, made by the parts, is a new row where it isn't sifted on."""
        images, rest = sift(self.sieve, one)
        level = len(images)
        if level == len(self.sieve):
            return
        place, backs = self.sieve[level]
        number = len(self.makings)
        self.makings.append([*parts, *[(passed, "back") for passed in self._passed(images)]])
        self.found.append((level, rest, number))
        backs[rest[place]] = undone(rest)
        self.numbers[(place, rest[place])] = number

    def _passed(self, images):
        """The numbers of the makings of the rows that bring the tables' places there."""
        pairs = [(place, image) for (place, _), image in zip(self.sieve, images)]
        return [self.numbers[pair] for pair in pairs if pair[0] != pair[1]]


def are_tables(places, thing):
    """Whether anything is closed tables of so many places."""
    if not isinstance(thing, list) or not all([_is_table(places, table) for table in thing]):
        return False
    heads = [place for place, _ in thing]
    if len(set(heads)) != len(heads):
        return False
    leave = [_all_leave(rows, heads[:at]) for at, (_, rows) in enumerate(thing)]
    return all(leave) and _are_closed(thing)


def sifts(tables, one):
    """Whether an arrangement is sifted by the tables."""
    return passes(sieve_of(tables), one)


def tables_of(order, some):
    """Closed tables, in this order of places, by which just what the arrangements make sifts."""
    chain = Chain(order)
    for one in some:
        chain.take(one, [])
    return chain.tables()


def many_in(tables):
    """How many arrangements sift."""
    many = 1
    for _, rows in tables:
        many *= len(rows)
    return many


def sieve_of(tables):
    """Of each table its place and, by where they bring it, its rows undone."""
    return [(place, {row[place]: undone(row) for row in rows}) for place, rows in tables]


def sift(sieve, one):
    """To where the rows bring the tables' places by which an arrangement is sifted, and what is left of it."""
    images = []
    for place, backs in sieve:
        image = one[place]
        if image not in backs:
            break
        images.append(image)
        # The row that leaves the place moves nothing.
        if image != place:
            one = behind(one, backs[image])
    return (images, one)


def passes(sieve, one):
    """Whether an arrangement is sifted by all tables of a sieve, and nothing is left of it."""
    images, rest = sift(sieve, one)
    return len(images) == len(sieve) and rest == tuple(range(len(rest)))


def _is_table(places, thing):
    """Whether anything is one table by itself."""
    if not isinstance(thing, tuple) or len(thing) != 2:
        return False
    place, rows = thing
    if not is_whole(place) or not 0 <= place < places or not isinstance(rows, list):
        return False
    if not all([is_arrangement(places, row) for row in rows]):
        return False
    images = [row[place] for row in rows]
    return len(set(images)) == len(images) and tuple(range(places)) in rows


def _all_leave(rows, heads):
    """Whether all rows leave these places where they are."""
    return all([row[place] == place for row in rows for place in heads])


def _are_closed(tables):
    """Whether each row, then one of its own or a later table, sifts by these tables."""
    for at, (_, rows) in enumerate(tables):
        sieve = sieve_of(tables[at:])
        later = [row for _, others in tables[at:] for row in others]
        if not all([passes(sieve, behind(row, other)) for row in rows for other in later]):
            return False
    return True
