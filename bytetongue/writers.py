"""Texts written in pieces."""

from bytetongue.writing import write_from


class Writer:
    """It is fed the pieces of a text and tells their rows."""

    def __init__(self, tongue):
        self.tongue = tongue
        self.at_page = 0

    def page(self):
        """The page at which the next sign is written."""
        return self.at_page

    def feed(self, text):
        """The row of a piece."""
        # A refusal leaves here ahead of the page's change, so that nothing of the piece stays behind.
        written = write_from(self.tongue, text, self.at_page)
        self.at_page = written[1]
        return written[0]
