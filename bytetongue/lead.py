"""The lead tongue: one to four bytes a sign, of which the first tells how many."""

from bytetongue.errors import NoSign
from bytetongue.parts import parted, together
from bytetongue.signs import is_sign
from bytetongue.tongues import Tongue

# At the place of a row's length: what its first byte has beside the sign's highest bits.
LEADS = (0, 0, 192, 224, 240)
BITS = 6

FIRST_BEHIND = 128
LAST_BEHIND = 191

# Other second bytes would make numbers of shorter rows (224, 240), halves (237), seen bytes (238) or
# numbers above the last sign (244).
SECONDS = {224: (160, 191), 237: (128, 159), 238: (128, 187), 240: (144, 191), 244: (128, 143)}

# What may follow a begun row goes by how many bytes it lacks: 194, 225 and 241 stand for one, two and three.
# Only the first bytes above, with nothing behind them yet, go otherwise.
SPOT_BYTES = (194, 224, 225, 237, 238, 240, 241, 244)


def length_of(sign):
    """How many bytes a sign's row has."""
    if sign < 128:
        return 1
    if sign < 2048:
        return 2
    if sign < 65536:
        return 3
    return 4


def lead_row(sign):
    """The sign's row."""
    length = length_of(sign)
    if length == 1:
        return [sign]
    parts = parted(sign, BITS, length)
    return [LEADS[length] + parts[0]] + [FIRST_BEHIND + part for part in parts[1:]]


def length_behind(first):
    """How many bytes a row with this first byte has; 0 where no sign's row begins so."""
    if first < 128:
        return 1
    if first < 194 or first > 244:
        return 0
    if first < 224:
        return 2
    if first < 240:
        return 3
    return 4


def bounds_behind(row, place):
    """The least and the greatest byte that may stand at this place, behind the row's first byte."""
    if place == 1:
        return SECONDS.get(row[0], (FIRST_BEHIND, LAST_BEHIND))
    return (FIRST_BEHIND, LAST_BEHIND)


def fits_behind(row):
    """Whether the bytes behind the first one may stand there."""
    for place in range(1, len(row)):
        bounds = bounds_behind(row, place)
        if not bounds[0] <= row[place] <= bounds[1]:
            return False
    return True


def missing(row):
    """How many bytes a row that is not empty lacks to be a sign's; None where no sign's row begins so."""
    lack = length_behind(row[0]) - len(row)
    if lack < 0 or not fits_behind(row):
        return None
    return lack


def carried(row):
    """The sign whose row this is."""
    # A byte by itself carries seven bits, more than a part has.
    if len(row) == 1:
        return row[0]
    return together([row[0] - LEADS[len(row)]] + [byte - FIRST_BEHIND for byte in row[1:]], BITS)


class LeadTongue(Tongue):
    """One page, unit 1, every sign."""

    def most(self):
        return 4

    def spell(self, sign, page=0):
        if not is_sign(sign):
            raise NoSign(sign, 0)
        return (lead_row(sign), page)

    def whole(self, row, page=0):
        if row and missing(row) == 0:
            return (carried(row), page)
        return None

    def fill(self, row, page=0):
        if not row:
            return [0]
        lack = missing(row)
        if lack is None:
            return None
        return [bounds_behind(row, place)[0] for place in range(len(row), len(row) + lack)]

    def spots(self):
        return [(0, [])] + [(0, [byte]) for byte in SPOT_BYTES]
