"""Rows read whole, and what they lack [21], [22], [4], [2]."""

import unittest

from bytetongue.errors import Faulty
from bytetongue.lead import LeadTongue
from bytetongue.pairs import PairTongue
from bytetongue.reading import read, rest_of
from bytetongue.shifts import ShiftTongue
from bytetongue.tables import TableTongue
from bytetongue.tongues import Tongue
from bytetongue.writing import write
from tests.helper import HIGH, LEAD, LOW, check_told_anew, many_signs, refusal, same_thing, samples

SHIFT = ShiftTongue([65, 66], [66, 67])
TABLE = TableTongue([(65, [1]), (66, [2, 1]), (67, [2, 2, 1, 1, 1, 1]), (68, [2, 2, 1, 1, 1, 2])])
FAULTS = (
    (LeadTongue(), [128], (0, 1, "strange")), (LeadTongue(), [65, 66, 255, 128], (2, 1, "strange")),
    (LeadTongue(), [65, 226, 130, 65], (1, 2, "broken")), (LeadTongue(), [240, 144, 128, 65, 255], (0, 3, "broken")),
    (LeadTongue(), [237, 160, 128], (0, 1, "broken")), (LeadTongue(), [238, 188, 128], (0, 1, "broken")),
    (LeadTongue(), [65, 244, 143, 191], (1, 3, "short")), (LeadTongue(), [194], (0, 1, "short")),
    (PairTongue(), [220, 0], (0, 2, "strange")), (PairTongue(), [0, 65, 239, 9, 0], (2, 2, "strange")),
    (PairTongue(), [216, 0, 0, 65], (0, 2, "broken")), (PairTongue(), [0, 65, 216, 0, 216, 0], (2, 2, "broken")),
    (PairTongue(), [216], (0, 1, "short")), (PairTongue(), [220], (0, 1, "short")),
    (PairTongue(), [0, 65, 216, 0, 65], (2, 3, "short")), (PairTongue(), [216, 0], (0, 2, "short")),
    (PairTongue("low"), [0, 220], (0, 2, "strange")), (PairTongue("low"), [0, 216, 65, 0], (0, 2, "broken")),
    (PairTongue("low"), [65, 0, 220], (2, 1, "short")), (PairTongue("low"), [0, 216, 0], (0, 3, "short")),
    (SHIFT, [255, 0], (0, 1, "broken")), (SHIFT, [0, 254], (1, 1, "strange")), (SHIFT, [0, 255], (1, 1, "short")),
    (SHIFT, [255, 1, 255], (2, 1, "strange")), (SHIFT, [255, 1, 254, 1], (2, 1, "broken")),
    (SHIFT, [2], (0, 1, "strange")),
    (TABLE, [1, 3], (1, 1, "strange")), (TABLE, [2, 2, 1, 1, 1, 3], (0, 5, "broken")), (TABLE, [1, 2], (1, 1, "short")),
    (TABLE, [1, 2, 2, 1, 1, 1], (1, 5, "short")), (Tongue(), [65, 66], (0, 1, "strange")),
)
TEXTS = (
    (LeadTongue(), [97, 228, 8364, 128512, 65279, 0, 1114111]),
    (PairTongue(), [97, 228, 8364, 128512, 65279, 0, 1114111]),
    (PairTongue("low"), [97, 228, 8364, 128512, 65279, 0, 1114111]), (SHIFT, [67, 66, 65, 65, 67, 67, 66]),
    (TABLE, [65, 66, 67, 68, 65, 65]), (Tongue(), []),
)


class Read(unittest.TestCase):
    def refused(self, tongue, row, fault):
        error = refusal(self, Faulty, read, tongue, list(row))
        told = (error.place, error.length, error.kind)
        self.assertTrue(all(same_thing(one, other) for one, other in zip(told, fault)), (row, told, fault))

    def test_texts(self):
        for tongue, text in TEXTS:
            told = read(tongue, write(tongue, text))
            self.assertIs(type(told), list)
            self.assertEqual(told, text)

    def test_every_text_of_one_sign(self):
        for tongue, known in ((LeadTongue(), LEAD), (PairTongue(), HIGH), (PairTongue("low"), LOW)):
            for sign in many_signs()[::5]:
                self.assertEqual(read(tongue, list(known.row(sign))), [sign])

    def test_texts_of_400_signs(self):
        signs = list(many_signs())
        for tongue in (LeadTongue(), PairTongue(), PairTongue("low")):
            for first in range(0, len(signs), 6000):
                text = signs[first:first + 400]
                self.assertEqual(read(tongue, write(tongue, text)), text)

    def test_the_row_without_bytes(self):
        for sample in samples():
            self.assertEqual(read(sample.tongue, []), [])

    def test_faults_written_out(self):
        for tongue, row, fault in FAULTS:
            self.refused(tongue, row, fault)

    def test_each_row_of_some_bytes(self):
        """A text's row is read to this text; else the first fault is told."""
        for sample in samples():
            for row in sample.rows():
                if bytes(row) in sample.texts():
                    self.assertEqual(read(sample.tongue, row), list(sample.texts()[bytes(row)][0]))
                else:
                    self.refused(sample.tongue, row, self.first_fault(sample, row))

    def first_fault(self, sample, row):
        """By what begins a text's row and what begins none, as the whole promise tells it."""
        unit = sample.known.unit
        whole = max(size for size in range(len(row) + 1) if bytes(row[:size]) in sample.texts())
        for size in range(unit, len(row) + 1, unit):
            if not sample.goes_on(row[:size]):
                texts = [first for first in range(size) if bytes(row[:first]) in sample.texts()]
                passed = size - unit - max(texts)
                return (max(texts), passed, "broken") if passed else (max(texts), unit, "strange")
        return (whole, len(row) - whole, "short")

    def test_the_names_of_what_is_handed_in(self):
        self.assertEqual(read(tongue=LeadTongue(), row=[65]), [65])
        self.assertEqual(rest_of(tongue=LeadTongue(), row=[65]), [])


class RestOf(unittest.TestCase):
    def check_rest(self, tongue, row, text_ahead):
        """The rest ends the sign that was begun, and no more."""
        rest = rest_of(tongue, list(row))
        self.assertIs(type(rest), list, row)
        self.assertTrue(0 < len(rest) < tongue.most(), (row, rest))
        text = read(tongue, list(row) + rest)
        self.assertEqual((text[:-1], len(text)), (text_ahead, len(text_ahead) + 1), (row, rest))

    def test_each_row_of_some_bytes(self):
        for sample in samples():
            for row in sample.rows():
                if bytes(row) in sample.texts():
                    self.assertEqual(rest_of(sample.tongue, row), [], row)
                elif sample.goes_on(row):
                    whole = max(size for size in range(len(row) + 1) if bytes(row[:size]) in sample.texts())
                    self.check_rest(sample.tongue, row, list(sample.texts()[bytes(row[:whole])][0]))
                else:
                    self.assertIsNone(rest_of(sample.tongue, row), row)

    def test_texts_cut_anywhere(self):
        for tongue, text in TEXTS:
            borders = {len(write(tongue, text[:many])): text[:many] for many in range(len(text) + 1)}
            row = write(tongue, text)
            for size in range(len(row) + 1):
                if size in borders:
                    self.assertEqual(rest_of(tongue, row[:size]), [])
                else:
                    begun = max(border for border in borders if border < size)
                    self.check_rest(tongue, row[:size], borders[begun])

    def test_rows_with_a_fault_do_not_go_on(self):
        for tongue, row, fault in FAULTS:
            if fault[2] != "short":
                self.assertIsNone(rest_of(tongue, row), row)
                self.assertIsNone(rest_of(tongue, row + [65, 0, 65, 0]), row)

    def test_an_odd_byte_at_the_end(self):
        for ahead in ([], [0, 65], [216, 0, 220, 0]):
            for byte in range(256):
                rest = rest_of(PairTongue(), ahead + [byte])
                if byte in (220, 221, 222, 223, 239):
                    self.assertIsNone(rest, byte)
                else:
                    self.check_rest(PairTongue(), ahead + [byte], read(PairTongue(), ahead))
        for ahead in ([], [65, 0], [0, 216, 0, 220]):
            for byte in range(256):
                self.check_rest(PairTongue("low"), ahead + [byte], read(PairTongue("low"), ahead))

    def test_an_odd_byte_behind_a_head(self):
        for byte in range(256):
            if byte in (220, 221, 222, 223):
                self.check_rest(PairTongue(), [0, 65, 219, 255, byte], [65])
            else:
                self.assertIsNone(rest_of(PairTongue(), [0, 65, 219, 255, byte]), byte)
            self.check_rest(PairTongue("low"), [65, 0, 255, 219, byte], [65])

    def test_a_tongue_without_signs(self):
        for tongue in (Tongue(), ShiftTongue([], []), TableTongue([])):
            self.assertEqual(rest_of(tongue, []), [])
            for byte in range(256):
                self.assertIsNone(rest_of(tongue, [byte]))

    def test_at_the_page_where_the_row_ends(self):
        self.assertIsNone(rest_of(SHIFT, [254]))
        self.assertIsNone(rest_of(SHIFT, [255, 1, 255]))
        self.assertEqual(rest_of(SHIFT, [255]), [1])
        self.assertEqual(rest_of(SHIFT, [255, 1, 254]), [0])
        self.assertEqual(rest_of(SHIFT, [255, 1]), [])


class LeftAlone(unittest.TestCase):
    def test_what_is_handed_in_stays_as_it_was(self):
        for tongue, row, fault in FAULTS:
            handed = list(row)
            refusal(self, Faulty, read, tongue, handed)
            rest_of(tongue, handed)
            self.assertEqual(handed, row)
        for tongue, text in TEXTS:
            row = write(tongue, text)
            handed = list(row)
            read(tongue, handed)
            rest_of(tongue, handed)
            self.assertEqual(handed, row)

    def test_what_is_told_may_be_changed(self):
        for tongue, text in TEXTS:
            row = write(tongue, text)
            check_told_anew(self, [lambda: read(tongue, row)])
            for size in range(len(row) + 1):
                begun = row[:size]
                check_told_anew(self, [lambda: rest_of(tongue, begun)])
                self.assertEqual(begun, row[:size])


if __name__ == "__main__":
    unittest.main()
