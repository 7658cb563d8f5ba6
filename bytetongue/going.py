"""Rows read in pieces, on behind their faults."""

from bytetongue.readers import Reader
from bytetongue.ways import Put


class GoingReader(Reader):
    """A reader that passes the bytes of a fault, tells what its way tells of them, and goes on."""

    def __init__(self, tongue, way, place=0):
        Reader.__init__(self, tongue, place)
        self.way = way

    def meet(self, length, kind):
        """What the way tells of a fault, and what comes of a unit that is held behind it."""
        self.note(length, kind)
        told = self.way.told(self.begun[:length])
        self.begun = self.begun[length:]
        # Only a broken fault leaves something held: its last unit.
        return told + self.look_at_begun() if self.begun else told


def parts_of(tongue, row):
    """The signs and the faults of a row in turn: tuples ("sign", row, sign) and ("passed", row, kind)."""
    # None is no sign, so that it shows where the faults stand among the signs.
    reader = GoingReader(tongue, Put(None))
    things = reader.feed(row) + reader.end()
    faults = reader.faults()
    parts = []
    page = 0
    for thing in things:
        if thing is None:
            fault = faults.pop(0)
            parts.append(("passed", row[fault[0]:fault[0] + fault[1]], fault[2]))
        else:
            spelled = tongue.spell(thing, page)
            parts.append(("sign", spelled[0], thing))
            page = spelled[1]
    return parts
