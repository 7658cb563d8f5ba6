"""Rows read in pieces, on behind their faults, and their parts [25], [26], [20], [4], [2]."""

import unittest
from functools import lru_cache

from bytetongue.going import GoingReader, parts_of
from bytetongue.lead import LeadTongue
from bytetongue.pairs import PairTongue
from bytetongue.readers import Reader
from bytetongue.shifts import ShiftTongue
from bytetongue.tables import TableTongue
from bytetongue.tongues import Tongue
from bytetongue.ways import Leave, Put, See, Way
from tests.helper import (HIGH, LEAD, LOW, NOTHING, WAYS, check_told_anew, few_ways_to_cut, known_course, known_told,
                          same_thing, samples, shift_known, spoil, table_known, ways_to_cut, with_short)

PLACES = (0, 1, 7, 1000, 10 ** 60)
TABLE = [(65, [1]), (66, [2, 1]), (67, [2, 2, 1, 1, 1, 1]), (68, [2, 2, 1, 1, 1, 2]), (69, [4])]
# Rows with several faults: strange ones, broken ones with a sign, more to come or a strange unit behind, short ones.
LONG_ROWS = (
    (LeadTongue(), LEAD, ([226, 130, 65, 255, 240, 144, 226], [240, 144, 128, 240, 144, 128, 128, 66],
                          [226, 255, 226, 226, 130, 172, 195], [65, 128, 237, 160, 128, 66, 244, 144],
                          [238, 188, 128, 65, 238, 187, 191], [195, 164, 65, 226, 130, 172, 66])),
    (PairTongue(), HIGH, ([216, 0, 0, 65, 220, 0, 216], [216, 0, 216, 0, 220, 0, 0], [216, 0, 220],
                          [216, 0, 220, 0, 220], [216, 0, 239, 9, 0, 65, 216, 0], [0, 65, 239, 0, 239, 255, 0, 66],
                          [216, 0, 216, 0, 216, 0])),
    (PairTongue("low"), LOW, ([0, 216, 65, 0, 0, 220, 65], [0, 216, 0, 216, 0, 220, 0], [0, 216, 0],
                              [0, 216, 9, 239, 65, 0, 0, 216], [65, 0, 0, 239, 255, 239, 66, 0])),
    (ShiftTongue([65, 66], [66, 67]), shift_known([65, 66], [66, 67]),
     ([255, 0, 255, 1, 255, 0, 254], [255, 255, 255, 1, 254, 1, 254], [254, 0, 9, 255, 9, 255, 1, 2],
      [255, 254, 1, 255, 1, 254, 255])),
    (TableTongue(TABLE), table_known(TABLE), ([2, 2, 1, 1, 1, 3, 1], [2, 2, 1, 4, 2, 4, 2], [2, 2, 2, 2, 1, 3, 2],
                                              [2, 2, 1, 1, 1, 2, 2, 2])),
    (Tongue(), NOTHING, ([0, 1, 2, 3, 4], [255, 254, 253])),
)


def faults_in(course, place):
    return [(place + met.first, met.last - met.first, met.kind) for met in course if met.kind != "sign"]


def state_behind(course, size, place):
    """Page, held, taken, faults and over of a reader that took so many bytes along a course."""
    behind = [met for met in course if met.size <= size]
    page = behind[-1].page if behind else 0
    held = size - (behind[-1].last if behind else 0)
    return (page, held, size, faults_in(behind, place), False)


def state_of(reader):
    return (reader.page(), reader.held(), reader.taken(), reader.faults(), reader.over())


class Case(unittest.TestCase):
    def check_fed(self, reader, told, expected, state, about):
        if told != expected or state_of(reader) != state:
            self.fail((about, told, expected, state_of(reader), state))

    def check_over(self, reader, about):
        """What is over tells nothing and takes nothing."""
        state = state_of(reader)
        for row in ([], [0], [65, 66], [128, 255, 220, 0], [1] * 40):
            self.check_fed(reader, reader.feed(row), [], state, about)
            self.check_fed(reader, reader.end(), [], state, about)

    def check_cut(self, tongue, known, row, ways, place, number):
        way, tells = WAYS[number % len(WAYS)]
        course = known_course(known, row)
        ended = with_short(course, row)
        behind = lru_cache(maxsize=None)(lambda size: state_behind(course, size, place))
        between = lru_cache(maxsize=None)(
            lambda size, stop: known_told([met for met in course if size < met.size <= stop], row, tells))
        for pieces in ways:
            about = (row, pieces, place, way)
            reader = GoingReader(tongue, way, place)
            self.check_fed(reader, [], [], (0, 0, 0, [], False), about)
            size = 0
            for piece in pieces:
                expected = between(size, size + len(piece))
                size += len(piece)
                self.check_fed(reader, reader.feed(list(piece)), expected, behind(size), about)
            expected = known_told(ended[len(course):], row, tells)
            state = (behind(size)[0], 0, size, faults_in(ended, place), True)
            self.check_fed(reader, reader.end(), expected, state, about)
            self.check_over(reader, about)


class Fed(Case):
    def test_short_rows_cut_in_every_way(self):
        for number, sample in enumerate(samples()):
            for row in sample.rows(4):
                turn = number + len(row) + sum(row)
                self.check_cut(sample.tongue, sample.known, row, ways_to_cut(row), PLACES[turn % 5], turn // 5)

    def test_the_shortest_rows_with_each_way(self):
        for sample in samples():
            for row in sample.rows(3):
                for number in range(len(WAYS)):
                    self.check_cut(sample.tongue, sample.known, row, ways_to_cut(row), PLACES[number], number)

    def test_longer_rows_cut_in_some_ways(self):
        for sample in samples():
            for number, row in enumerate(sample.rows()[::3]):
                self.check_cut(sample.tongue, sample.known, row, few_ways_to_cut(row), 3, number)

    def test_chosen_rows_cut_in_every_way_with_each_way(self):
        for tongue, known, rows in LONG_ROWS:
            for row in rows:
                for number in range(len(WAYS)):
                    self.check_cut(tongue, known, row, ways_to_cut(row), PLACES[(len(row) + number) % 5], number)

    def test_every_byte_and_unit_by_itself(self):
        for sample in samples():
            for byte in range(256):
                self.check_cut(sample.tongue, sample.known, [byte], [[[byte]]], 3, byte)
        for order, known in (("high", HIGH), ("low", LOW)):
            for one in range(256):
                for other in (0, 65, 216, 219, 220, 223, 224, 239, 255):
                    for row in ([one, other], [other, one], [216, 216, one, other], [216, 216, other, one]):
                        self.check_cut(PairTongue(order), known, row, [[row]], 0, one)

    def test_many_bytes(self):
        for tongue, known, rows in LONG_ROWS:
            for number, row in enumerate(rows):
                whole = row * (2000 // len(row))
                ways = [[whole], [whole[:7], whole[7:900], whole[900:901], whole[901:]]]
                self.check_cut(tongue, known, whole, ways, 5, number)

    def test_20_000_bytes(self):
        for tongue, row, told in ((LeadTongue(), [226, 130, 65, 255], [65533, 65, 65533]),
                                  (PairTongue(), [216, 0, 0, 65], [65533, 65]),
                                  (ShiftTongue([65], [66]), [2, 255, 0, 254, 0], [65533, 66, 65]),
                                  (TableTongue(TABLE), [2, 3], [65533, 65533]), (Tongue(), [0], [65533])):
            reader = GoingReader(tongue, Put())
            things = []
            for piece in range(10):
                things += reader.feed(row * (2000 // len(row)))
            self.assertEqual((len(things), reader.taken()), (20000 // len(row) * len(told), 20000))
            self.assertEqual(things[-len(told):], told)


class Codecs(Case):
    """Python's own codecs go on behind a fault so, where no seen byte's number comes."""

    def check(self, tongue, codec, row):
        reader = GoingReader(tongue, Put())
        told = reader.feed(list(row)) + reader.end()
        expected = [ord(letter) for letter in bytes(row).decode(codec, errors="replace")]
        if told != expected:
            self.fail((row, told, expected))

    def test_lead(self):
        some = (65, 127, 128, 143, 144, 159, 160, 191, 192, 193, 194, 223, 224, 225, 237, 239, 240, 241, 244, 245, 255)
        for one in some:
            for other in some:
                for third in some:
                    self.check(LeadTongue(), "utf-8", [one, other, third])
                    self.check(LeadTongue(), "utf-8", [65, one, other, 128, third, 240, one, other])

    def test_pairs(self):
        some = (0, 65, 216, 219, 220, 223, 224, 255)
        for order, codec in (("high", "utf-16-be"), ("low", "utf-16-le")):
            for one in some:
                for other in some:
                    for third in some:
                        self.check(PairTongue(order), codec, [one, other, third])
                        self.check(PairTongue(order), codec, [one, other, third, 216])
                        self.check(PairTongue(order), codec, [65, 0, one, other, third, 220, 0, 216])


class WrittenOut(Case):
    def check(self, reader, row, told, page, held, taken, faults):
        self.check_fed(reader, reader.feed(row), told, (page, held, taken, faults, False), row)

    def test_a_broken_fault_with_a_sign_behind(self):
        reader = GoingReader(LeadTongue(), Put(), 100)
        self.check(reader, [65, 226], [65], 0, 1, 2, [])
        self.check(reader, [130], [], 0, 2, 3, [])
        self.check(reader, [66], [65533, 66], 0, 0, 4, [(101, 2, "broken")])

    def test_a_broken_fault_with_more_to_come_behind(self):
        reader = GoingReader(LeadTongue(), See(), 100)
        self.check(reader, [226, 130, 195], [61410, 61314], 0, 1, 3, [(100, 2, "broken")])
        self.check(reader, [164], [228], 0, 0, 4, [(100, 2, "broken")])

    def test_a_broken_fault_with_a_strange_byte_behind(self):
        reader = GoingReader(LeadTongue(), See(), 100)
        self.check(reader, [226, 130, 255], [61410, 61314, 61439], 0, 0, 3, [(100, 2, "broken"), (102, 1, "strange")])
        reader = GoingReader(LeadTongue(), Put(63), 100)
        self.check(reader, [226, 130, 255], [63, 63], 0, 0, 3, [(100, 2, "broken"), (102, 1, "strange")])
        reader = GoingReader(LeadTongue(), Leave(), 100)
        self.check(reader, [226, 130, 255], [], 0, 0, 3, [(100, 2, "broken"), (102, 1, "strange")])

    def test_strange_bytes(self):
        reader = GoingReader(LeadTongue(), See())
        self.check(reader, [128, 65, 255], [61312, 65, 61439], 0, 0, 3, [(0, 1, "strange"), (2, 1, "strange")])

    def test_a_short_end(self):
        for way, told in ((Leave(), []), (Way(), []), (Put(), [65533]), (See(), [61424, 61328, 61312])):
            reader = GoingReader(LeadTongue(), way, 100)
            self.check(reader, [65, 240, 144, 128], [65], 0, 3, 4, [])
            self.check_fed(reader, reader.end(), told, (0, 0, 4, [(101, 3, "short")], True), way)
            self.check_over(reader, way)

    def test_units_cut_in_two(self):
        reader = GoingReader(PairTongue(), See(), 10)
        self.check(reader, [216], [], 0, 1, 1, [])
        self.check(reader, [0, 0], [], 0, 3, 3, [])
        faults = [(10, 2, "broken")]
        self.check(reader, [65], [61400, 61184, 65], 0, 0, 4, faults)
        self.check(reader, [216, 0, 216, 1, 220], [61400, 61184], 0, 3, 9, faults + [(14, 2, "broken")])
        faults = faults + [(14, 2, "broken")]
        self.check(reader, [0], [66560], 0, 0, 10, faults)
        self.check(reader, [216, 0, 220], [], 0, 3, 13, faults)
        expected = [61400, 61184, 61404]
        self.check_fed(reader, reader.end(), expected, (0, 0, 13, faults + [(20, 3, "short")], True), "short")

    def test_a_broken_unit_with_a_strange_one_behind(self):
        reader = GoingReader(PairTongue("low"), Put(), 10)
        faults = [(10, 2, "broken"), (12, 2, "strange")]
        self.check(reader, [0, 216, 0, 239, 0], [65533, 65533], 0, 1, 5, faults)
        self.check_fed(reader, reader.end(), [65533], (0, 0, 5, faults + [(14, 1, "short")], True), "short")

    def test_the_page_stays(self):
        reader = GoingReader(ShiftTongue([65, 66], [66, 67]), See())
        self.check(reader, [255, 0], [61439, 65], 0, 0, 2, [(0, 1, "broken")])
        self.check(reader, [255, 1], [67], 1, 0, 4, [(0, 1, "broken")])
        self.check(reader, [254, 1], [61438, 67], 1, 0, 6, [(0, 1, "broken"), (4, 1, "broken")])
        self.check(reader, [255], [61439], 1, 0, 7, [(0, 1, "broken"), (4, 1, "broken"), (6, 1, "strange")])
        self.check(reader, [254], [], 1, 1, 8, [(0, 1, "broken"), (4, 1, "broken"), (6, 1, "strange")])
        self.assertEqual((reader.end(), reader.page(), reader.held()), ([61438], 1, 0))

    def test_the_end_without_a_fault(self):
        for sample in samples():
            for way, tells in WAYS:
                reader = GoingReader(sample.tongue, way, 4)
                self.check_fed(reader, reader.end(), [], (0, 0, 0, [], True), sample.some)
                self.check_over(reader, sample.some)

    def test_what_is_over_takes_whatever_it_is_handed(self):
        reader = GoingReader(LeadTongue(), Put())
        reader.end()
        for thing in (None, 5, "AB", (65,), [None]):
            self.check_fed(reader, reader.feed(thing), [], (0, 0, 0, [], True), thing)

    def test_it_stands_under_reader_and_its_arguments_have_their_names(self):
        self.assertTrue(issubclass(GoingReader, Reader))
        reader = GoingReader(tongue=LeadTongue(), way=Put(), place=5)
        self.assertEqual(reader.feed(row=[65, 255]), [65, 65533])
        self.assertEqual(reader.faults(), [(6, 1, "strange")])
        reader = GoingReader(LeadTongue(), Put())
        reader.feed([255])
        self.assertEqual(reader.faults(), [(0, 1, "strange")])

    def test_kinds(self):
        reader = GoingReader(PairTongue(), See())
        told = (reader.feed([220, 0, 216]), reader.end(), reader.faults())
        self.assertEqual([type(thing) for thing in told], [list] * 3)
        self.assertEqual([type(fault) for fault in reader.faults()], [tuple] * 2)
        self.assertEqual([type(told) for told in (reader.page(), reader.held(), reader.taken())], [int] * 3)
        self.assertIs(reader.over(), True)
        self.assertIs(GoingReader(PairTongue(), See()).over(), False)


class BesideAPlainReader(Case):
    def check(self, tongue, row, way, place):
        plain = Reader(tongue, place)
        going = GoingReader(tongue, way, place)
        for byte in row:
            signs = plain.feed([byte])
            told = going.feed([byte])
            if plain.over():
                self.assertEqual((signs, plain.faults()), ([], going.faults()[:1]), row)
                return
            self.check_fed(going, told, signs, state_of(plain), row)
        plain.end()
        going.end()
        self.assertEqual((plain.page(), plain.taken()), (going.page(), going.taken()), row)
        self.assertEqual(plain.faults(), going.faults(), row)

    def test_up_to_the_first_fault_they_tell_the_same(self):
        for sample in samples():
            for number, row in enumerate(sample.rows()):
                self.check(sample.tongue, row, WAYS[number % 5][0], number % 3)
        for tongue, known, rows in LONG_ROWS:
            for row in rows:
                for way, tells in WAYS:
                    self.check(tongue, row, way, 9)

    def test_fed_whole(self):
        for sample in samples():
            for row in sample.rows(3):
                plain = Reader(sample.tongue)
                going = GoingReader(sample.tongue, Leave())
                signs = plain.feed(row) + plain.end()
                told = going.feed(row) + going.end()
                self.assertEqual((signs, plain.faults()), (told[:len(signs)], going.faults()[:1]), row)


class Parts(unittest.TestCase):
    def check(self, tongue, known, row):
        parts = parts_of(tongue, list(row))
        expected = []
        for met in with_short(known_course(known, row), row):
            if met.kind == "sign":
                expected.append(("sign", row[met.first:met.last], met.sign))
            else:
                expected.append(("passed", row[met.first:met.last], met.kind))
        if parts != expected:
            self.fail((row, parts, expected))
        self.assertEqual([byte for part in parts for byte in part[1]], row)

    def test_each_row_of_some_bytes(self):
        for sample in samples():
            for row in sample.rows():
                self.check(sample.tongue, sample.known, row)

    def test_longer_rows(self):
        for tongue, known, rows in LONG_ROWS:
            for row in rows:
                self.check(tongue, known, row)
                self.check(tongue, known, row * (2000 // len(row)))

    def test_written_out(self):
        self.assertEqual(parts_of(LeadTongue(), [65, 226, 130, 66, 255, 195]), [
            ("sign", [65], 65), ("passed", [226, 130], "broken"), ("sign", [66], 66), ("passed", [255], "strange"),
            ("passed", [195], "short")])
        self.assertEqual(parts_of(LeadTongue(), [226, 255, 226, 226, 130, 172]), [
            ("passed", [226], "broken"), ("passed", [255], "strange"), ("passed", [226], "broken"),
            ("sign", [226, 130, 172], 8364)])
        self.assertEqual(parts_of(PairTongue(), [216, 0, 220, 0, 216, 0, 0, 65, 0]), [
            ("sign", [216, 0, 220, 0], 65536), ("passed", [216, 0], "broken"), ("sign", [0, 65], 65),
            ("passed", [0], "short")])
        self.assertEqual(parts_of(ShiftTongue([65, 66], [66, 67]), [255, 1, 1, 254, 1, 254, 0, 255]), [
            ("sign", [255, 1], 67), ("sign", [1], 67), ("passed", [254], "broken"), ("sign", [1], 67),
            ("sign", [254, 0], 65), ("passed", [255], "short")])
        self.assertEqual(parts_of(Tongue(), [1, 2]), [("passed", [1], "strange"), ("passed", [2], "strange")])

    def test_the_row_without_bytes(self):
        for sample in samples():
            self.assertEqual(parts_of(sample.tongue, []), [])

    def test_a_sign_that_stands_for_a_fault_elsewhere_is_a_sign(self):
        self.assertEqual(parts_of(LeadTongue(), [239, 191, 189, 255]), [
            ("sign", [239, 191, 189], 65533), ("passed", [255], "strange")])

    def test_kinds_and_names(self):
        parts = parts_of(tongue=LeadTongue(), row=[65, 255])
        self.assertIs(type(parts), list)
        self.assertEqual([type(part) for part in parts], [tuple] * 2)
        self.assertEqual([type(part[1]) for part in parts], [list] * 2)
        self.assertTrue(same_thing(parts[0][2], 65))


class LeftAlone(Case):
    def test_what_is_handed_in_stays_as_it_was_and_is_not_held_on_to(self):
        for tongue, known, rows in LONG_ROWS:
            for row in rows:
                course = known_course(known, row)
                for way, tells in WAYS:
                    for pieces in few_ways_to_cut(row):
                        reader = GoingReader(tongue, way)
                        told = []
                        for piece in pieces:
                            handed = list(piece)
                            told += reader.feed(handed)
                            self.assertEqual(handed, piece)
                            handed[:] = [0] * 9
                        self.assertEqual((told, state_of(reader)),
                                         (known_told(course, row, tells), state_behind(course, len(row), 0)))

    def test_what_is_told_may_be_changed(self):
        for tongue, known, rows in LONG_ROWS:
            for row in rows:
                course = known_course(known, row)
                for way, tells in WAYS:
                    reader = GoingReader(tongue, way)
                    for byte in row:
                        spoil(reader.feed([byte]))
                        spoil(reader.faults())
                    self.assertEqual(state_of(reader), state_behind(course, len(row), 0))
                    spoil(reader.end())
                    check_told_anew(self, [reader.faults, reader.end, lambda: reader.feed([1, 2])])
                    self.assertEqual(reader.faults(), faults_in(with_short(course, row), 0))

    def test_parts(self):
        for tongue, known, rows in LONG_ROWS:
            for row in rows:
                handed = list(row)
                check_told_anew(self, [lambda: parts_of(tongue, handed)])
                self.assertEqual(handed, row)

    def test_readers_of_one_tongue_and_one_way_do_not_mix(self):
        tongue = ShiftTongue([65, 66], [66, 67])
        way = See()
        one = GoingReader(tongue, way)
        other = GoingReader(tongue, way, 50)
        self.assertEqual((one.feed([255]), other.feed([0])), ([], [65]))
        self.assertEqual((one.feed([1]), other.feed([1])), ([67], [66]))
        self.assertEqual((one.page(), other.page()), (1, 0))
        self.assertEqual((one.feed([254, 1]), other.feed([254])), ([61438, 67], [61438]))
        self.assertEqual((one.faults(), other.faults()), ([(2, 1, "broken")], [(52, 1, "strange")]))


class Rows(unittest.TestCase):
    def test_the_rows_above_meet_each_kind_of_fault(self):
        for tongue, known, rows in LONG_ROWS[:-1]:
            courses = [known_course(known, row) for row in rows]
            kinds = {met.kind for course in courses for met in course}
            self.assertEqual(kinds, {"sign", "strange", "broken"})
            self.assertTrue([row for row, course in zip(rows, courses) if with_short(course, row) != course])
            behind_broken = [(after.kind if after.size == met.size else "more") for course in courses
                             for met, after in zip(course, course[1:]) if met.kind == "broken"]
            self.assertEqual(set(behind_broken), {"sign", "strange", "more"})


if __name__ == "__main__":
    unittest.main()
