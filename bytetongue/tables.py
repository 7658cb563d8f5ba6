"""Table tongues: signs and their rows as a table tells them."""

from bytetongue.errors import BadTable, NoSign
from bytetongue.orders import begins
from bytetongue.signs import is_row, is_sign
from bytetongue.tongues import Tongue

MOST_TUPLES = 64
MOST_BYTES = 6


def is_entry(thing):
    """Whether it is a tuple of a sign and a row that may be a sign's."""
    if not isinstance(thing, tuple) or len(thing) != 2:
        return False
    return is_sign(thing[0]) and is_row(thing[1]) and 1 <= len(thing[1]) <= MOST_BYTES


def collide(one, other):
    """Whether two tuples can't stand in one table."""
    return one[0] == other[0] or begins(one[1], other[1]) or begins(other[1], one[1])


def check_table(rows):
    if len(rows) > MOST_TUPLES:
        raise BadTable(MOST_TUPLES, MOST_TUPLES)
    for other, entry in enumerate(rows):
        if not is_entry(entry):
            raise BadTable(other, other)
        for one, earlier in enumerate(rows[:other]):
            if collide(earlier, entry):
                raise BadTable(one, other)


class TableTongue(Tongue):
    """One page, unit 1, the signs of a table."""

    def __init__(self, rows):
        check_table(rows)
        self.row_by_sign = {}
        self.sign_by_row = {}
        # Of each beginning of a row, the whole one too, what it lacks.
        self.rest_by_row = {}
        for entry in rows:
            self.enter(entry[0], tuple(entry[1]))

    def enter(self, sign, row):
        self.row_by_sign[sign] = row
        self.sign_by_row[row] = sign
        for size in range(len(row) + 1):
            self.rest_by_row[row[:size]] = row[size:]

    def rows(self):
        """The tuples of the table."""
        return [(sign, list(row)) for sign, row in self.row_by_sign.items()]

    def most(self):
        return max([len(row) for row in self.sign_by_row], default=0)

    def spell(self, sign, page=0):
        if not is_sign(sign) or sign not in self.row_by_sign:
            raise NoSign(sign, 0)
        return (list(self.row_by_sign[sign]), page)

    def whole(self, row, page=0):
        sign = self.sign_by_row.get(tuple(row))
        return None if sign is None else (sign, page)

    def fill(self, row, page=0):
        rest = self.rest_by_row.get(tuple(row))
        return None if rest is None else list(rest)

    def spots(self):
        return [(0, list(row)) for row, rest in self.rest_by_row.items() if rest]
