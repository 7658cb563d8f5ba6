"""Ways to go on behind a fault."""

from bytetongue.signs import FIRST_SEEN


class Way:
    """What a reader tells for the bytes of a fault that it passes: nothing, where no other way is told."""

    def told(self, row):
        return []


class Leave(Way):
    """Nothing is told."""


class Put(Way):
    """One sign is told for each fault."""

    def __init__(self, sign=65533):
        self.sign = sign

    def told(self, row):
        return [self.sign]


class See(Way):
    """Each byte is told as its seen byte."""

    def told(self, row):
        return [FIRST_SEEN + byte for byte in row]
