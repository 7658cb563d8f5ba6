"""Seen texts written whole and in pieces."""

from bytetongue.signs import FIRST_SEEN, is_seen_byte
from bytetongue.writers import Writer
from bytetongue.writing import write


class SeenSpeller:
    """It spells as a tongue does, and seen bytes too."""

    def __init__(self, tongue):
        self.tongue = tongue

    def spell(self, sign, page):
        """The row of a sign or a seen byte at the page, and the page to which it goes."""
        if is_seen_byte(sign):
            return ([sign - FIRST_SEEN], page)
        return self.tongue.spell(sign, page)


class SeenWriter(Writer):
    """It is fed the pieces of a seen text and tells their rows."""

    def __init__(self, tongue):
        Writer.__init__(self, SeenSpeller(tongue))


def write_seen(tongue, text):
    """The seen text's row in the tongue."""
    return write(SeenSpeller(tongue), text)
