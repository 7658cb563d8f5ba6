"""What every tongue can be asked."""

from bytetongue.errors import NoSign


class Tongue:
    """A tongue of one page and no sign; the other tongues stand under it."""

    def pages(self):
        return 1

    def unit(self):
        """The number of bytes of a unit."""
        return 1

    def most(self):
        """The number of bytes of the longest row of a sign."""
        return 0

    def spell(self, sign, page=0):
        """The sign's row at the page, and the page to which it goes."""
        raise NoSign(sign, 0)

    def whole(self, row, page=0):
        """The sign whose row at the page this is, and the page to which it goes; or None."""
        return None

    def fill(self, row, page=0):
        """A row which, put behind this one, makes the row of some sign at the page; or None."""
        return None

    def look(self, begun, page=0):
        """What a begun row is at the page: a sign, more to come, or none."""
        found = self.whole(begun, page)
        if found is not None:
            return ("sign", found[0], found[1])
        if self.fill(begun, page) is None:
            return ("none", None, page)
        return ("more", None, page)

    def spots(self):
        """Tuples (page, row), among them one that goes alike for each spot."""
        return []
