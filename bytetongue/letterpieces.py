"""Letters written and read in pieces."""

from bytetongue.errors import BadLetters
from bytetongue.letters import GROUP_BYTES, GROUP_LETTERS, bytes_in, lettered, letters_ahead, unlettered


def behind_groups(things, size):
    """What is left at the end behind the whole groups of this size."""
    return things[len(things) - len(things) % size:]


class LetterWriter:
    """It is fed the pieces of a row and tells their letters."""

    def __init__(self):
        # The bytes behind the last whole group: each of them has made one letter sure.
        self.rest = []
        self.ended = False

    def over(self):
        return self.ended

    def feed(self, row):
        """The letters that are sure with a piece."""
        if self.ended:
            return []
        known = len(self.rest)
        row = self.rest + row
        self.rest = behind_groups(row, GROUP_BYTES)
        letters = lettered(row)
        # Behind a group that is not whole stands one letter of which bits are still to come.
        return letters[known:len(letters) - 1] if self.rest else letters[known:]

    def end(self):
        """The last letter, where bits are left."""
        if self.ended:
            return []
        self.ended = True
        return lettered(self.rest)[len(self.rest):]


class LetterReader:
    """It is fed the pieces of letters and tells the bytes that they carry."""

    def __init__(self):
        # The letters behind the last whole group.
        self.rest = []
        self.many = 0
        self.wrong = None
        self.ended = False

    def over(self):
        return self.ended

    def bad(self):
        """The place of the first byte that is no letter, or how many letters came where they end badly; or None."""
        return self.wrong

    def feed(self, row):
        """The bytes that come with a piece."""
        if self.ended:
            return []
        letters = row[:letters_ahead(row)]
        self.many += len(letters)
        if len(letters) < len(row):
            self.stop_badly()
        known = len(bytes_in(self.rest))
        letters = self.rest + letters
        self.rest = behind_groups(letters, GROUP_LETTERS)
        return bytes_in(letters)[known:]

    def end(self):
        """No bytes: each was told with its last bit."""
        if not self.ended:
            self.ended = True
            # Whole groups are never refused, so the rest alone decides.
            try:
                unlettered(self.rest)
            except BadLetters:
                self.stop_badly()
        return []

    def stop_badly(self):
        self.wrong = self.many
        self.ended = True
