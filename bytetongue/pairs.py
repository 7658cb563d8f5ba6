"""The pair tongues: one or two units of two bytes a sign."""

from bytetongue.errors import NoOrder, NoSign
from bytetongue.parts import parted, together
from bytetongue.signs import BYTE_BITS, FIRST_HEAD, FIRST_TAIL, is_head, is_sign, is_tail
from bytetongue.tongues import Tongue

# The least sign that has two units.
FIRST_WIDE = 65536
HALF_BITS = 10

# By order: if anything fills a row, one of these does. 220 is the high byte of a tail, and stands where a
# tail is still wanted; with 0 for all other bytes a unit is a sign below 256, or keeps its high byte.
FILLS = {
    "high": ((), (0,), (0, 0), (220, 0), (0, 220, 0)),
    "low": ((), (0,), (220,), (0, 0), (0, 220)),
}


def units_of(sign):
    """The numbers of a sign's units."""
    if sign < FIRST_WIDE:
        return [sign]
    parts = parted(sign - FIRST_WIDE, HALF_BITS, 2)
    return [FIRST_HEAD + parts[0], FIRST_TAIL + parts[1]]


def sign_of(units):
    """The sign that has these units, or None."""
    if len(units) == 1 and is_sign(units[0]):
        return units[0]
    if len(units) == 2 and is_head(units[0]) and is_tail(units[1]):
        return FIRST_WIDE + together([units[0] - FIRST_HEAD, units[1] - FIRST_TAIL], HALF_BITS)
    return None


class PairTongue(Tongue):
    """One page, unit 2, every sign."""

    def __init__(self, order="high"):
        # A thing of another kind may hold itself equal to a word.
        if not isinstance(order, str) or order not in FILLS:
            raise NoOrder("the order is neither of the two words")
        self.order = order

    def unit(self):
        return 2

    def most(self):
        return 4

    def turned(self, pair):
        """From the high byte and the low one to a unit's bytes as they stand in a row, or back again."""
        return pair if self.order == "high" else [pair[1], pair[0]]

    def row_of(self, units):
        row = []
        for number in units:
            row.extend(self.turned(parted(number, BYTE_BITS, 2)))
        return row

    def units_in(self, row):
        return [together(self.turned(row[at:at + 2]), BYTE_BITS) for at in range(0, len(row), 2)]

    def spell(self, sign, page=0):
        if not is_sign(sign):
            raise NoSign(sign, 0)
        return (self.row_of(units_of(sign)), page)

    def whole(self, row, page=0):
        if len(row) not in (2, 4):
            return None
        sign = sign_of(self.units_in(row))
        return None if sign is None else (sign, page)

    def fill(self, row, page=0):
        for rest in FILLS[self.order]:
            if self.whole(row + list(rest), page) is not None:
                return list(rest)
        return None

    def spots(self):
        return [(0, []), (0, self.row_of([FIRST_HEAD]))]
