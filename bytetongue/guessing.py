"""In which of several tongues bytes may be a text."""

from bytetongue.readers import Reader


class Guesser:
    """It is fed the pieces of a row and tells the tongues by their numbers."""

    def __init__(self, tongues):
        self.readers = [Reader(tongue) for tongue in tongues]

    def feed(self, row):
        for reader in self.readers:
            reader.feed(row)

    def may(self):
        """The tongues in which the row so far begins some text's row."""
        return [number for number, reader in enumerate(self.readers) if reader.ending() is not None]

    def are(self):
        """The tongues in which the row so far is a text's."""
        return [number for number, reader in enumerate(self.readers) if reader.ending() == []]
