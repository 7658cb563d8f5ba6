"""The refusals. Their words tell no numbers: one may be too long for Python to write it out."""


class TongueError(ValueError):
    """Any refusal."""


class TooGreat(TongueError):
    """A number or a part that is below 0 or has more bits than there is room for."""


class NoSign(TongueError):
    """A thing that a tongue has not, and its place."""

    def __init__(self, sign, at):
        TongueError.__init__(self, "the tongue has no such sign")
        self.sign = sign
        self.at = at


class NoOrder(TongueError):
    """An order that is neither of the two words."""


class BadPage(TongueError):
    """A list that is no page of a shift tongue."""

    def __init__(self, which):
        TongueError.__init__(self, "the list is no page")
        self.which = which


class BadTable(TongueError):
    """A tuple that fits in no table, or not beside an earlier one."""

    def __init__(self, one, other):
        TongueError.__init__(self, "the list is no table")
        self.one = one
        self.other = other


class BadLetters(TongueError):
    """Letters that no row is written as."""

    def __init__(self, at):
        TongueError.__init__(self, "no row is written so in letters")
        self.at = at


class Faulty(TongueError):
    """A row that no text is written as, with its first fault."""

    def __init__(self, place, length, kind):
        TongueError.__init__(self, "no text is written so")
        self.place = place
        self.length = length
        self.kind = kind
