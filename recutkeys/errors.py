"""The refusals, each made of its fields."""


class NoText(ValueError):
    """A text that writes nothing that can be read; row is where it goes wrong."""

    def __init__(self, row):
        ValueError.__init__(self, row)
        self.row = row


class NoStep(ValueError):
    """A step that can't be done; why is one of form, door, room and asked."""

    def __init__(self, why):
        ValueError.__init__(self, why)
        self.why = why


class NoWay(ValueError):
    """A way that can't be gone: at its step of this place, for NoStep's why."""

    def __init__(self, at, why):
        ValueError.__init__(self, at, why)
        self.at = at
        self.why = why


class NoMove(ValueError):
    """A row of moves that leads to no neighbour at the move of this number."""

    def __init__(self, at):
        ValueError.__init__(self, at)
        self.at = at


class NoName(KeyError):
    """A room, door or mark was asked for that isn't there."""

    def __init__(self, asked):
        KeyError.__init__(self, asked)
        self.asked = asked


class NoPart(KeyError):
    """A split room was asked for that isn't in the part."""

    def __init__(self, asked):
        KeyError.__init__(self, asked)
        self.asked = asked


class NoNumber(IndexError):
    """A key or a key's number was asked for that there is not."""

    def __init__(self, asked):
        IndexError.__init__(self, asked)
        self.asked = asked


class NoMoment(IndexError):
    """A moment was asked for that isn't there."""

    def __init__(self, asked):
        IndexError.__init__(self, asked)
        self.asked = asked


class NoMore(LookupError):
    """There is no act more to be taken back or done again; word is back or on."""

    def __init__(self, word):
        LookupError.__init__(self, word)
        self.word = word


class TooMany(OverflowError):
    """There is more than the asker wanted to be told at most."""

    def __init__(self, most):
        OverflowError.__init__(self, most)
        self.most = most
