"""Shift tongues: two pages of signs, and bytes that shift from the one to the other."""

from bytetongue.errors import BadPage, NoSign
from bytetongue.orders import begins
from bytetongue.signs import is_sign
from bytetongue.tongues import Tongue

MOST_SIGNS = 250

# At the place of a page: the byte that shifts to it.
SHIFTS = (254, 255)


def places_in(signs, which):
    """The place of each sign in the list of a page."""
    if len(signs) > MOST_SIGNS:
        raise BadPage(which)
    places = {}
    for place, sign in enumerate(signs):
        # Only of a sign it is sure that it can be looked for in a dict.
        if not is_sign(sign) or sign in places:
            raise BadPage(which)
        places[sign] = place
    return places


class ShiftTongue(Tongue):
    """Two pages, unit 1, the signs of two lists."""

    def __init__(self, first, second):
        self.places = [places_in(first, 0), places_in(second, 1)]
        self.lists = [list(first), list(second)]
        self.shifted = [self.row_beyond(0), self.row_beyond(1)]

    def row_beyond(self, page):
        """The row at the page of a sign that its list has not; without bytes where there is no such sign."""
        for place, sign in enumerate(self.lists[1 - page]):
            if sign not in self.places[page]:
                return [SHIFTS[1 - page], place]
        return []

    def longest(self, page):
        """A row of some sign at the page, as long as one can be there; without bytes where there is no sign."""
        if self.shifted[page]:
            return list(self.shifted[page])
        return [0] if self.lists[page] else []

    def signs(self, page=0):
        """The list of the page."""
        return list(self.lists[page])

    def pages(self):
        return 2

    def most(self):
        return max([len(self.longest(page)) for page in range(2)])

    def spell(self, sign, page=0):
        if is_sign(sign):
            if sign in self.places[page]:
                return ([self.places[page][sign]], page)
            if sign in self.places[1 - page]:
                return ([SHIFTS[1 - page], self.places[1 - page][sign]], 1 - page)
        raise NoSign(sign, 0)

    def sign_of(self, byte, page):
        """The sign that has this byte at the page, or None."""
        return self.lists[page][byte] if byte < len(self.lists[page]) else None

    def whole(self, row, page=0):
        if len(row) == 1:
            sign = self.sign_of(row[0], page)
            return None if sign is None else (sign, page)
        if len(row) == 2 and row[0] == SHIFTS[1 - page]:
            sign = self.sign_of(row[1], 1 - page)
            # No text's row shifts to a sign that the page left has itself.
            return None if sign is None or sign in self.places[page] else (sign, 1 - page)
        return None

    def fill(self, row, page=0):
        if self.whole(row, page) is not None:
            return []
        if not row and self.lists[page]:
            return [0]
        if self.shifted[page] and begins(row, self.shifted[page]):
            return self.shifted[page][len(row):]
        return None

    def spots(self):
        spots = []
        for page in range(2):
            longest = self.longest(page)
            spots.extend([(page, longest[:size]) for size in range(len(longest))])
        return spots
