"""Rows read in pieces [19], [20], [4], [2]."""

import unittest

from bytetongue.lead import LeadTongue
from bytetongue.pairs import PairTongue
from bytetongue.readers import Reader
from bytetongue.shifts import ShiftTongue
from bytetongue.tables import TableTongue
from bytetongue.tongues import Tongue
from tests.helper import (HIGH, LEAD, LOW, NOTHING, few_ways_to_cut, samples, shift_known, spoil, table_known,
                          ways_to_cut)

PLACES = (0, 1, 7, 1000, 10 ** 60)
TABLE = [(65, [1]), (66, [2, 1]), (67, [2, 2, 1, 1, 1, 1]), (68, [2, 2, 1, 1, 1, 2])]
# Rows of six to nine bytes: of texts, with faults at several places, and with signs that are not ended.
LONG_ROWS = (
    (LeadTongue(), LEAD, ([240, 144, 128, 128, 226, 130, 172], [65, 195, 164, 240, 159, 152, 128, 66],
                          [65, 240, 144, 128, 65, 66, 67], [244, 143, 191, 191, 244, 144, 65],
                          [65, 66, 255, 67, 68, 69], [226, 130, 172, 226, 130, 226, 130, 172],
                          [238, 187, 191, 238, 188, 128, 65],
                          [195, 164, 240, 144, 128], [65, 66, 67, 68, 69, 70, 237, 160])),
    (PairTongue(), HIGH, ([216, 0, 220, 0, 0, 65, 255, 255], [0, 65, 216, 61, 222, 0, 0], [0, 65, 220, 0, 0, 66],
                          [0, 65, 216, 0, 0, 66, 0, 67], [216, 0, 216, 0, 220, 0], [219, 255, 223, 255, 219, 255, 223],
                          [0, 65, 239, 0, 0, 66], [254, 255, 0, 65, 216, 0])),
    (PairTongue("low"), LOW, ([0, 216, 0, 220, 65, 0, 255, 255], [65, 0, 61, 216, 0, 222, 0], [65, 0, 0, 220, 66, 0],
                              [65, 0, 0, 216, 66, 0, 67, 0], [0, 216, 0, 216, 0, 220],
                              [255, 219, 255, 223, 255, 219, 255], [65, 0, 0, 239, 66, 0], [255, 254, 65, 0, 0, 216])),
    (ShiftTongue([65, 66], [66, 67]), shift_known([65, 66], [66, 67]),
     ([0, 1, 255, 1, 0, 254, 0, 1], [255, 1, 0, 1, 254], [255, 1, 254, 1, 0], [255, 0, 1, 1, 1], [255, 1, 255, 1, 0, 0],
      [1, 0, 1, 0, 254, 0], [0, 2, 0, 1, 255, 1])),
    (TableTongue(TABLE), table_known(TABLE), ([1, 2, 1, 2, 2, 1, 1, 1, 1], [2, 2, 1, 1, 1, 2, 1], [2, 2, 1, 1, 1, 3, 1],
                                              [1, 1, 2, 2, 1, 1, 1], [2, 2, 2, 1, 1, 1], [3, 1, 2, 1, 1, 1])),
    (Tongue(), NOTHING, ([0, 1, 2, 3, 4, 5], [255, 254, 253, 252, 251, 250])),
)


def state_behind(known, row, place):
    """Of a reader fed this row: all signs told, page, held, taken, faults and over."""
    signs = []
    page = 0
    first = 0
    stop = known.unit
    while stop <= len(row):
        kind, sign, goal = known.looked(bytes(row[first:stop]), page)
        if kind == "sign":
            signs.append(sign)
            page = goal
            first = stop
        if kind == "none":
            passed = stop - first - known.unit
            fault = (place + first, passed, "broken") if passed else (place + first, known.unit, "strange")
            return (signs, page, stop - first, stop, [fault], True)
        stop += known.unit
    return (signs, page, len(row) - first, len(row), [], False)


def state_of(reader):
    return (reader.page(), reader.held(), reader.taken(), reader.faults(), reader.over())


class Case(unittest.TestCase):
    def check_fed(self, reader, told, signs, state, about):
        if told != signs or state_of(reader) != state:
            self.fail((about, told, signs, state_of(reader), state))

    def check_over(self, reader, about):
        """What is over tells nothing and takes nothing."""
        state = state_of(reader)
        for row in ([], [0], [65, 66], [128, 255, 220, 0], [1] * 40):
            self.check_fed(reader, reader.feed(row), [], state, about)
            self.check_fed(reader, reader.end(), [], state, about)

    def check_cut(self, tongue, known, row, ways, place):
        states = [state_behind(known, row[:size], place) for size in range(len(row) + 1)]
        for pieces in ways:
            about = (row, pieces, place)
            reader = Reader(tongue, place)
            self.check_fed(reader, [], [], (0, 0, 0, [], False), about)
            size = 0
            for piece in pieces:
                ahead = len(states[size][0])
                size += len(piece)
                self.check_fed(reader, reader.feed(list(piece)), states[size][0][ahead:], states[size][1:], about)
            page, held, taken, faults, over = states[size][1:]
            if held and not over:
                faults = [(place + taken - held, held, "short")]
            self.check_fed(reader, reader.end(), [], (page, held, taken, faults, True), about)
            self.check_over(reader, about)


class Fed(Case):
    def test_short_rows_cut_in_every_way(self):
        for number, sample in enumerate(samples()):
            for row in sample.rows(4):
                place = PLACES[(number + len(row) + sum(row)) % len(PLACES)]
                self.check_cut(sample.tongue, sample.known, row, ways_to_cut(row), place)

    def test_longer_rows_cut_in_some_ways(self):
        for sample in samples():
            for row in sample.rows()[::3]:
                self.check_cut(sample.tongue, sample.known, row, few_ways_to_cut(row), 0)

    def test_chosen_rows_cut_in_every_way(self):
        for tongue, known, rows in LONG_ROWS:
            for row in rows:
                self.check_cut(tongue, known, row, ways_to_cut(row), PLACES[len(row) % len(PLACES)])

    def test_every_byte_and_unit_by_itself(self):
        for sample in samples():
            for byte in range(256):
                self.check_cut(sample.tongue, sample.known, [byte], [[[byte]]], 3)
        for order, known in (("high", HIGH), ("low", LOW)):
            for one in range(256):
                for other in (0, 65, 216, 219, 220, 223, 224, 239, 255):
                    for row in ([one, other], [other, one]):
                        self.check_cut(PairTongue(order), known, row, [[row]], 0)

    def test_many_bytes(self):
        for sample in samples():
            texts = [row for row in sample.texts() if row]
            for row in texts[:1] + texts[-1:]:
                page = sample.texts()[row][1]
                if page == 0:
                    whole = list(row) * 40
                    ways = [[whole], [whole[:7], whole[7:90], whole[90:]]]
                    self.check_cut(sample.tongue, sample.known, whole, ways, 5)

    def test_20_000_bytes(self):
        for tongue, row, sign in ((LeadTongue(), [240, 159, 152, 128], 128512),
                                  (PairTongue(), [216, 61, 222, 0], 128512), (PairTongue("low"), [65, 0], 65),
                                  (ShiftTongue(list(range(250)), [66]), [249], 249),
                                  (TableTongue(TABLE), [2, 1], 66)):
            reader = Reader(tongue)
            signs = []
            for piece in range(10):
                signs += reader.feed(row * (2000 // len(row)))
            self.assertEqual(signs, [sign] * (20000 // len(row)))
            self.assertEqual(state_of(reader), (0, 0, 20000, [], False))


class Codecs(Case):
    """What Python's own codecs say of a row is said by a reader too, where no seen byte's number comes."""

    KINDS = {"invalid start byte": "strange", "invalid continuation byte": "broken", "unexpected end of data": "short",
             "illegal encoding": "strange", "illegal UTF-16 surrogate": "broken", "truncated data": "short"}

    def check(self, tongue, codec, row):
        reader = Reader(tongue)
        signs = reader.feed(list(row)) + reader.end()
        try:
            expected = ([ord(letter) for letter in bytes(row).decode(codec)], [])
        except UnicodeDecodeError as error:
            ahead = bytes(row[:error.start]).decode(codec)
            fault = (error.start, error.end - error.start, self.KINDS[error.reason])
            expected = ([ord(letter) for letter in ahead], [fault])
        if (signs, reader.faults()) != expected:
            self.fail((row, signs, reader.faults(), expected))

    def test_lead(self):
        some = (65, 127, 128, 143, 144, 159, 160, 191, 192, 193, 194, 223, 224, 225, 237, 239, 240, 241, 244, 245, 255)
        for one in some:
            for other in some:
                for third in some:
                    self.check(LeadTongue(), "utf-8", [one, other, third])
                    self.check(LeadTongue(), "utf-8", [65, one, other, 128, third])

    def test_pairs(self):
        some = (0, 65, 216, 219, 220, 223, 224, 255)
        for order, codec in (("high", "utf-16-be"), ("low", "utf-16-le")):
            for one in some:
                for other in some:
                    for third in some:
                        self.check(PairTongue(order), codec, [one, other, third])
                        self.check(PairTongue(order), codec, [one, other, third, 216])
                        self.check(PairTongue(order), codec, [65, 0, one, other, third, 220, 0])


class WrittenOut(Case):
    def check(self, reader, row, signs, page, held, taken, faults, over):
        self.check_fed(reader, reader.feed(row), signs, (page, held, taken, faults, over), row)

    def test_a_sign_comes_with_its_last_byte(self):
        reader = Reader(LeadTongue(), 100)
        self.check(reader, [65, 226, 130], [65], 0, 2, 3, [], False)
        self.check(reader, [172], [8364], 0, 0, 4, [], False)
        self.check(reader, [], [], 0, 0, 4, [], False)
        self.check(reader, [226, 130, 65, 66], [], 0, 3, 7, [(104, 2, "broken")], True)
        self.check(reader, [66], [], 0, 3, 7, [(104, 2, "broken")], True)

    def test_a_strange_byte(self):
        reader = Reader(LeadTongue(), 100)
        self.check(reader, [65, 128, 66, 67], [65], 0, 1, 2, [(101, 1, "strange")], True)

    def test_a_short_end(self):
        reader = Reader(LeadTongue(), 100)
        self.check(reader, [65, 240, 144, 128], [65], 0, 3, 4, [], False)
        self.assertEqual(reader.end(), [])
        self.assertEqual(state_of(reader), (0, 3, 4, [(101, 3, "short")], True))
        self.check(reader, [128], [], 0, 3, 4, [(101, 3, "short")], True)

    def test_units_cut_in_two(self):
        reader = Reader(PairTongue(), 10)
        self.check(reader, [0], [], 0, 1, 1, [], False)
        self.check(reader, [65, 216], [65], 0, 1, 3, [], False)
        self.check(reader, [61], [], 0, 2, 4, [], False)
        self.check(reader, [222], [], 0, 3, 5, [], False)
        self.check(reader, [0, 220], [128512], 0, 1, 7, [], False)
        self.check(reader, [0, 0, 65], [], 0, 2, 8, [(16, 2, "strange")], True)

    def test_a_broken_unit(self):
        reader = Reader(PairTongue("low"), 10)
        self.check(reader, [0, 216, 65, 0, 66, 0], [], 0, 4, 4, [(10, 2, "broken")], True)

    def test_a_short_unit(self):
        for row, fault in (([216], (10, 1, "short")), ([216, 0], (10, 2, "short")), ([216, 0, 220], (10, 3, "short")),
                           ([0, 65, 220], (12, 1, "short")), ([216, 0, 65], (10, 3, "short"))):
            reader = Reader(PairTongue(), 10)
            reader.feed(row)
            self.assertEqual((reader.faults(), reader.over()), ([], False))
            self.assertEqual(reader.end(), [])
            self.assertEqual((reader.faults(), reader.over(), reader.held()), ([fault], True, fault[1]))

    def test_pages(self):
        reader = Reader(ShiftTongue([65, 66], [66, 67]))
        self.check(reader, [0, 255], [65], 0, 1, 2, [], False)
        self.check(reader, [1], [67], 1, 0, 3, [], False)
        self.check(reader, [0, 254], [66], 1, 1, 5, [], False)
        self.check(reader, [0, 255], [65], 0, 1, 7, [], False)
        self.check(reader, [0, 0], [], 0, 2, 8, [(6, 1, "broken")], True)

    def test_the_end_without_a_fault(self):
        for sample in samples():
            reader = Reader(sample.tongue, 4)
            self.assertEqual(reader.end(), [])
            self.assertEqual(state_of(reader), (0, 0, 0, [], True))
            self.check_over(reader, sample.some)

    def test_a_tongue_without_signs(self):
        reader = Reader(Tongue(), 9)
        self.check(reader, [], [], 0, 0, 0, [], False)
        self.check(reader, [65, 66], [], 0, 1, 1, [(9, 1, "strange")], True)

    def test_what_is_over_takes_whatever_it_is_handed(self):
        reader = Reader(LeadTongue())
        reader.end()
        for thing in (None, 5, "AB", (65,), [None]):
            self.assertEqual(reader.feed(thing), [])
            self.assertEqual(state_of(reader), (0, 0, 0, [], True))

    def test_the_names_of_what_is_handed_in(self):
        reader = Reader(tongue=LeadTongue(), place=5)
        self.assertEqual(reader.feed(row=[65, 255]), [65])
        self.assertEqual(reader.faults(), [(6, 1, "strange")])
        reader = Reader(LeadTongue())
        reader.feed([255])
        self.assertEqual(reader.faults(), [(0, 1, "strange")])

    def test_kinds(self):
        reader = Reader(LeadTongue())
        self.assertIs(type(reader.feed([65])), list)
        self.assertIs(reader.over(), False)
        self.assertIs(type(reader.faults()), list)
        reader.feed([255])
        self.assertIs(reader.over(), True)
        self.assertEqual([type(fault) for fault in reader.faults()], [tuple])
        self.assertEqual([type(told) for told in (reader.page(), reader.held(), reader.taken())], [int] * 3)


class LeftAlone(Case):
    def test_what_is_handed_in_stays_as_it_was_and_is_not_held_on_to(self):
        for tongue, known, rows in LONG_ROWS:
            for row in rows:
                for pieces in few_ways_to_cut(row):
                    reader = Reader(tongue)
                    signs = []
                    for piece in pieces:
                        handed = list(piece)
                        signs += reader.feed(handed)
                        self.assertEqual(handed, piece)
                        handed[:] = [0] * 9
                    self.assertEqual((signs,) + state_of(reader), state_behind(known, row, 0))

    def test_what_is_told_may_be_changed(self):
        for tongue, known, rows in LONG_ROWS:
            for row in rows:
                reader = Reader(tongue)
                for byte in row:
                    spoil(reader.feed([byte]))
                    spoil(reader.faults())
                self.assertEqual(state_of(reader), state_behind(known, row, 0)[1:])
                spoil(reader.end())
                first = reader.faults()
                spoil(reader.faults())
                self.assertEqual(reader.faults(), first)
                spoil(reader.feed([1, 2]))
                self.assertEqual(reader.feed([1, 2]), [])

    def test_two_readers_of_one_tongue_do_not_mix(self):
        tongue = ShiftTongue([65, 66], [66, 67])
        one = Reader(tongue)
        other = Reader(tongue, 50)
        self.assertEqual((one.feed([255]), other.feed([0])), ([], [65]))
        self.assertEqual((one.feed([1]), other.feed([1])), ([67], [66]))
        self.assertEqual((one.page(), other.page()), (1, 0))
        self.assertEqual((one.feed([254, 1]), other.feed([254])), ([], []))
        self.assertEqual((one.faults(), other.faults()), ([(2, 1, "broken")], [(52, 1, "strange")]))


class Rows(unittest.TestCase):
    def test_the_rows_above_meet_each_kind_of_fault(self):
        for sample in samples()[:4] + samples()[5:7] + samples()[-5:-1]:
            states = [state_behind(sample.known, row, 0) for row in sample.rows()]
            kinds = {fault[2] for state in states for fault in state[4]}
            self.assertEqual(kinds, {"strange", "broken"}, sample.some)
            self.assertTrue([state for state in states if state[2] and not state[5]], sample.some)


if __name__ == "__main__":
    unittest.main()
