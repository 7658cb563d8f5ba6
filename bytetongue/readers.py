"""Rows read in pieces."""


class Reader:
    """It is fed the pieces of a row and tells the signs that came; it is over behind the first fault."""

    def __init__(self, tongue, place=0):
        self.tongue = tongue
        self.place = place
        self.at_page = 0
        self.begun = []
        self.many = 0
        self.met = []
        self.ended = False

    def page(self):
        return self.at_page

    def held(self):
        """How many bytes are taken that are no sign yet."""
        return len(self.begun)

    def taken(self):
        """How many bytes are taken in all."""
        return self.many

    def faults(self):
        """The faults so far, tuples (place, length, kind)."""
        return list(self.met)

    def over(self):
        return self.ended

    def ending(self):
        """A row that ends the sign which is begun, if one is; None where there is no such row, and of what is over."""
        if self.ended:
            return None
        # Nothing held ends a text, also where the tongue has no sign to go on with.
        return self.tongue.fill(self.begun, self.at_page) if self.begun else []

    def feed(self, row):
        """The signs that come with a piece."""
        signs = []
        if self.ended:
            return signs
        for byte in row:
            signs.extend(self.take(byte))
            if self.ended:
                break
        return signs

    def end(self):
        """The signs that come with the end."""
        if self.ended:
            return []
        signs = self.meet(len(self.begun), "short") if self.begun else []
        self.ended = True
        return signs

    def take(self, byte):
        """The signs that come with a byte."""
        self.begun.append(byte)
        self.many += 1
        if len(self.begun) % self.tongue.unit() != 0:
            return []
        return self.look_at_begun()

    def look_at_begun(self):
        """The signs that come of the held units."""
        found = self.tongue.look(self.begun, self.at_page)
        if found[0] == "more":
            return []
        if found[0] == "none":
            return self.meet_none()
        self.begun = []
        self.at_page = found[2]
        return [found[1]]

    def meet_none(self):
        """The signs that come of held units that no sign's row begins with."""
        ahead_of_last = len(self.begun) - self.tongue.unit()
        if ahead_of_last > 0:
            return self.meet(ahead_of_last, "broken")
        return self.meet(len(self.begun), "strange")

    def meet(self, length, kind):
        """The signs that come of a fault."""
        self.note(length, kind)
        self.ended = True
        return []

    def note(self, length, kind):
        """Keeps a fault, which begins at the first held byte."""
        self.met.append((self.place + self.many - len(self.begun), length, kind))
