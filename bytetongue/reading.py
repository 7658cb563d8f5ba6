"""Rows read whole, and what they lack."""

from bytetongue.errors import Faulty
from bytetongue.readers import Reader


def read(tongue, row):
    """The text whose row in the tongue this is."""
    reader = Reader(tongue)
    text = reader.feed(row)
    reader.end()
    if reader.faults():
        fault = reader.faults()[0]
        raise Faulty(fault[0], fault[1], fault[2])
    return text


def rest_of(tongue, row):
    """A row with which this one is a whole text's; None where no text's row begins so."""
    reader = Reader(tongue)
    reader.feed(row)
    return reader.ending()
