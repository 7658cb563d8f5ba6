"""Rows led from one tongue to another in pieces."""

from bytetongue.errors import NoSign
from bytetongue.going import GoingReader
from bytetongue.readers import Reader
from bytetongue.seeing import SeenWriter
from bytetongue.writing import write


class Turner:
    """It is fed the pieces of a row of the source and tells rows of the goal."""

    def __init__(self, source, goal, way=None, instead=None):
        # What is written in the stead of a sign that the goal has not.
        self.stead = [] if instead is None else [instead]
        # Only for its refusal: the row is not wanted here.
        write(goal, self.stead)
        self.reader = Reader(source) if way is None else GoingReader(source, way)
        self.writer = SeenWriter(goal)
        self.many = 0
        self.lacking = []

    def lacks(self):
        """The signs that the goal has not, tuples (number, sign)."""
        return list(self.lacking)

    def faults(self):
        """The reader's faults."""
        return self.reader.faults()

    def feed(self, row):
        """The row of what comes with a piece."""
        return self.turned(self.reader.feed(row))

    def end(self):
        """The row of what comes with the end."""
        return self.turned(self.reader.end())

    def turned(self, things):
        """The row of signs and seen bytes that the reader told."""
        row = []
        for thing in things:
            row.extend(self.turned_one(thing))
            self.many += 1
        return row

    def turned_one(self, thing):
        try:
            return self.writer.feed([thing])
        except NoSign:
            self.lacking.append((self.many, thing))
            return self.writer.feed(self.stead)
