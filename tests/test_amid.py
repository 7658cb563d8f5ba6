"""Where one who comes amid the bytes is in step with them [28], [29], [4], [2]."""

import itertools
import unittest

from bytetongue.amid import in_step
from bytetongue.lead import LeadTongue
from bytetongue.pairs import PairTongue
from bytetongue.shifts import ShiftTongue
from bytetongue.tables import TableTongue
from bytetongue.tongues import Tongue
from bytetongue.writing import write
from tests.helper import (HIGH, LEAD, LOW, NOTHING, SHIFT_LISTS, TABLES, check_told_anew, known_spots, known_track,
                          known_written, many_signs, samples, shift_known, small_codes, table_known)

WIDE = (0, 65, 228, 8364, 65279, 65536, 128512, 1114111)


def known_in_step(known, row):
    """By going along the row from every spot."""
    tracks = [known_track(known, spot, row) for spot in known_spots(known)]
    tracks = [track for track in tracks if track is not None]
    for many in range(0, len(row) + 1, known.unit):
        spots = {track[many // known.unit] for track in tracks}
        if len(spots) == 1:
            page, begun = spots.pop()
            if not begun:
                return (many, page)
    return None


def goes_on_from_a_spot(known, row):
    return any(known_track(known, spot, row) is not None for spot in known_spots(known))


def known_tongues():
    """Tongues of each kind, and what is known of them, each with some of its signs."""
    found = [(LeadTongue(), LEAD, WIDE), (PairTongue(), HIGH, WIDE), (PairTongue("low"), LOW, WIDE)]
    found += [(Tongue(), NOTHING, ())]
    found += [(ShiftTongue(first, second), shift_known(first, second), sorted(set(first + second)))
              for first, second in SHIFT_LISTS]
    found += [(TableTongue(rows), table_known(rows), [sign for sign, row in rows]) for rows in TABLES]
    return found


class Case(unittest.TestCase):
    def check(self, tongue, known, row):
        told = in_step(tongue, list(row))
        expected = known_in_step(known, row)
        if told != expected or type(told) is not type(expected):
            self.fail((list(row), told, expected))


class InStep(Case):
    def test_each_row_of_some_bytes(self):
        for sample in samples():
            for row in sample.rows():
                if len(row) % sample.known.unit == 0:
                    self.check(sample.tongue, sample.known, row)

    def test_small_tables(self):
        for code in small_codes():
            rows = list(enumerate(code))
            tongue = TableTongue(rows)
            known = table_known(rows)
            for many in range(6):
                for row in itertools.product((1, 2), repeat=many):
                    self.check(tongue, known, row)

    def test_shift_tongues(self):
        signs = (65, 66, 67)
        lists = [list(some) for many in range(4) for some in itertools.permutations(signs, many)]
        for first in lists:
            for second in lists[::2]:
                tongue = ShiftTongue(first, second)
                known = shift_known(first, second)
                for many in range(4):
                    for row in itertools.product((0, 1, 2, 254, 255), repeat=many):
                        self.check(tongue, known, row)

    def test_every_byte_and_unit(self):
        for tongue, known, signs in known_tongues():
            if known.unit == 1:
                for byte in range(256):
                    self.check(tongue, known, [byte])
                    self.check(tongue, known, [byte, 128])
                    self.check(tongue, known, [128, byte])
        for tongue, known in ((PairTongue(), HIGH), (PairTongue("low"), LOW)):
            for one in range(0, 256, 3):
                for other in (0, 65, 215, 216, 219, 220, 223, 224, 238, 239, 240, 255):
                    self.check(tongue, known, [one, other])
                    self.check(tongue, known, [other, one])

    def test_the_row_without_bytes(self):
        for tongue in (LeadTongue(), PairTongue(), PairTongue("low"), Tongue(), ShiftTongue([65], [66]),
                       ShiftTongue([], []), TableTongue([(65, [1]), (66, [2, 3])]), TableTongue([])):
            self.assertIsNone(in_step(tongue, []))
        # One spot alone: nothing can be begun.
        self.assertEqual(in_step(TableTongue([(65, [1]), (66, [2])]), []), (0, 0))
        # Two pages with nothing begun are two spots.
        self.assertIsNone(in_step(ShiftTongue([65], [65]), []))

    def test_a_row_that_goes_on_from_no_spot(self):
        for tongue, row in ((LeadTongue(), [255]), (LeadTongue(), [65, 66, 128]), (LeadTongue(), [128] * 4),
                            (PairTongue(), [216, 0, 0, 65]), (PairTongue(), [0, 65, 220, 0]), (Tongue(), [65]),
                            (ShiftTongue([65], [66]), [9]), (ShiftTongue([65], [66]), [255, 255]),
                            (TableTongue([(65, [1]), (66, [2, 3])]), [2, 1]), (TableTongue([]), [1])):
            self.assertIsNone(in_step(tongue, row), row)

    def test_written_out(self):
        table = TableTongue([(65, [1]), (66, [2, 1]), (67, [2, 2, 1]), (68, [2, 2, 2])])
        for row, told in (([1], (1, 0)), ([2], None), ([2, 1], (2, 0)), ([2, 2, 2, 2], None), ([2, 2, 1, 2], (3, 0))):
            self.assertEqual(in_step(table, row), told, row)
        never = TableTongue([(65, [1, 2]), (66, [2, 1])])
        # From [2] alone all of the third row goes on, from nothing begun alone all of the fourth.
        for row, told in (([1, 2, 1, 2], None), ([1, 1], (1, 0)), ([1, 2, 1, 1], (1, 0)), ([2, 1, 1, 2], (0, 0))):
            self.assertEqual(in_step(never, row), told, row)

    def test_both_pages_of_shift_tongues(self):
        tongue = ShiftTongue([65, 66], [66, 67])
        # At page 0, at page 1 and behind either shift.
        self.assertIsNone(in_step(tongue, []))
        self.assertIsNone(in_step(tongue, [0]))
        self.assertIsNone(in_step(tongue, [1, 0]))
        # Behind [254], 1 is no sign; behind [255] it is one, and nothing is begun at page 0 and at page 1.
        self.assertIsNone(in_step(tongue, [1]))
        self.assertEqual(in_step(tongue, [255]), (0, 0))
        self.assertEqual(in_step(tongue, [254]), (0, 1))
        self.assertEqual(in_step(tongue, [0, 255]), (1, 0))
        self.assertEqual(in_step(tongue, [1, 254, 0]), (1, 1))
        self.assertEqual(in_step(tongue, [0, 1, 0, 254, 0, 255, 1]), (0, 1))
        self.assertEqual(in_step(tongue, [1, 1, 0, 254, 0, 255, 1]), (1, 1))

    def test_pages_to_which_no_text_comes(self):
        # No text comes to page 1, but its spots count.
        self.assertEqual(in_step(ShiftTongue([65], []), [0]), (1, 0))
        self.assertEqual(in_step(ShiftTongue([65], [65]), [254]), None)
        self.assertIsNone(in_step(ShiftTongue([65], [65]), [0, 0]))
        self.assertEqual(in_step(ShiftTongue([65, 66], [66]), [254]), (0, 1))
        self.assertEqual(in_step(ShiftTongue([65, 66], [66]), [1]), (0, 0))
        self.assertIsNone(in_step(ShiftTongue([65, 66], [66]), [0]))

    def test_the_names_of_what_is_handed_in(self):
        told = in_step(tongue=LeadTongue(), row=[128, 65])
        self.assertEqual((told, type(told), [type(number) for number in told]), ((1, 0), tuple, [int, int]))


class LeadAndPairs(Case):
    def test_lead(self):
        """The place of the first byte other than 128 to 191, where there is one, and never more than 3."""
        for sample in samples()[:2]:
            for row in sample.rows():
                told = in_step(sample.tongue, row)
                firsts = [place for place, byte in enumerate(row) if not 128 <= byte <= 191]
                if not goes_on_from_a_spot(LEAD, row):
                    self.assertIsNone(told, row)
                elif firsts:
                    self.assertEqual(told, (firsts[0], 0), row)
                else:
                    self.assertIn(told, ((3, 0), None), row)

    def test_lead_behind_bytes_that_go_on(self):
        for ahead, told in (([128], None), ([191, 128], None), ([128, 128, 128], (3, 0)), ([128, 128, 143], (3, 0))):
            self.assertEqual(in_step(LeadTongue(), ahead), told)
            for byte in list(range(0, 128)) + list(range(194, 245)):
                self.assertEqual(in_step(LeadTongue(), ahead + [byte]), (len(ahead), 0))
            for byte in (192, 193, 245, 255):
                self.assertIsNone(in_step(LeadTongue(), ahead + [byte]))

    def test_pairs(self):
        for sample in samples()[2:4]:
            for row in sample.rows():
                if row and len(row) % 2 == 0:
                    told = in_step(sample.tongue, row)
                    if goes_on_from_a_spot(sample.known, row):
                        self.assertIn(told, ((0, 0), (2, 0)), row)
                    else:
                        self.assertIsNone(told, row)

    def test_pairs_written_out(self):
        for order, turn in (("high", 1), ("low", -1)):
            for unit, told in (([0, 65], (0, 0)), ([216, 0], (0, 0)), ([220, 0], (2, 0)), ([223, 255], (2, 0)),
                               ([239, 0], None), ([255, 255], (0, 0))):
                self.assertEqual(in_step(PairTongue(order), unit[::turn]), told)


class OwnSigns(Case):
    def check_text(self, tongue, known, text):
        """From where one is in step on, the signs are the text's own."""
        borders = {}
        for many in range(len(text) + 1):
            row, page = known_written(known, text[:many])
            borders[len(row)] = page
        row = write(tongue, text)
        for size in range(0, len(row) + 1, known.unit):
            told = in_step(tongue, row[size:])
            if told is not None:
                self.assertEqual(borders[size + told[0]], told[1], (text, size))

    def test_texts(self):
        for tongue, known, signs in known_tongues():
            for many in range(4 if len(signs) < 5 else 3):
                for text in itertools.product(signs, repeat=many):
                    self.check_text(tongue, known, list(text))

    def test_small_tables(self):
        for code in small_codes()[::3]:
            rows = list(enumerate(code))
            for text in itertools.product(range(len(code)), repeat=3):
                self.check_text(TableTongue(rows), table_known(rows), list(text))


class Long(Case):
    def test_texts_of_400_signs(self):
        some = list(many_signs()[::199])[:400]
        for tongue, known, signs in known_tongues():
            text = some if len(signs) > 5 else (list(signs) * 400)[:400]
            row = write(tongue, text)
            for first in (0, 1, 2, 3):
                self.check(tongue, known, row[first * known.unit:2000])

    def test_rows_of_2_000_bytes(self):
        for sample in samples():
            for row in [row for row in sample.rows(4) if row and len(row) % sample.known.unit == 0][::19]:
                self.check(sample.tongue, sample.known, (row * 2000)[:2000])

    def test_in_step_at_last_only(self):
        late = TableTongue([(65, [1, 2]), (66, [2, 1]), (67, [3]), (68, [1, 3]), (69, [2, 3])])
        self.assertIsNone(in_step(late, [1, 2] * 1000))
        self.assertEqual(in_step(late, [1, 2] * 999 + [3]), (1999, 0))
        self.assertEqual(in_step(late, [2, 1] * 999 + [3, 1]), (1999, 0))
        self.assertEqual(in_step(late, [1, 2] * 999 + [2, 1]), (0, 0))
        self.assertEqual(in_step(late, [1, 2] * 999 + [1, 1]), (1, 0))

    def test_the_page_is_sure_by_what_comes_late(self):
        shift = ShiftTongue([65], [65, 66])
        self.assertIsNone(in_step(shift, [0] * 2000))
        self.assertEqual(in_step(shift, [0] * 1999 + [1]), (0, 1))
        self.assertEqual(in_step(shift, [0] * 1999 + [255]), (0, 0))
        self.assertEqual(in_step(shift, [1] + [0] * 1999), (1, 1))

    def test_large_tables(self):
        rows = [(number, [number % 8, 7, 7, 7, 7, number // 8]) for number in range(64)]
        tongue = TableTongue(rows)
        known = table_known(rows)
        for text in (list(range(64)) * 5, [56] * 330, [number * number % 64 for number in range(330)]):
            row = write(tongue, text)[:1990]
            for first in range(7):
                self.check(tongue, known, row[first:])


class LeftAlone(unittest.TestCase):
    def test_what_is_handed_in_stays_as_it_was(self):
        for tongue, known, signs in known_tongues():
            row = write(tongue, list(signs))
            for first in range(0, len(row) + 1, known.unit):
                handed = row[first:]
                check_told_anew(self, [lambda: in_step(tongue, handed)])
                self.assertEqual(handed, row[first:])


if __name__ == "__main__":
    unittest.main()
