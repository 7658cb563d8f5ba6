"""The lead tongue [8], [9], [10], [11], [2]."""

import unittest

from bytetongue.lead import LeadTongue
from tests.helper import (LEAD, check_filled, check_left_alone, check_looked, check_no_sign, check_page_told_or_not,
                          check_spelled, check_spots, many_signs, not_signs, with_a_byte)

# The point's own borders: behind the first byte stand the bytes from the one to the other.
SECONDS = {224: (160, 191), 237: (128, 159), 238: (128, 187), 240: (144, 191), 244: (128, 143)}
LENGTHS = [(range(0, 128), 1), (range(194, 224), 2), (range(224, 240), 3), (range(240, 245), 4)]
WRITTEN = (
    (0, [0]), (65, [65]), (127, [127]),
    (128, [194, 128]), (191, [194, 191]), (192, [195, 128]), (2047, [223, 191]),
    (2048, [224, 160, 128]), (4095, [224, 191, 191]), (4096, [225, 128, 128]),
    (55295, [237, 159, 191]), (57344, [238, 128, 128]), (61183, [238, 187, 191]), (61440, [239, 128, 128]),
    (65279, [239, 187, 191]), (65535, [239, 191, 191]),
    (65536, [240, 144, 128, 128]), (262143, [240, 191, 191, 191]), (262144, [241, 128, 128, 128]),
    (1048575, [243, 191, 191, 191]), (1048576, [244, 128, 128, 128]), (1114111, [244, 143, 191, 191]),
)


def long_beginnings():
    """Some of the beginnings of three bytes, with all at the borders of the second byte."""
    third = (128, 129, 160, 190, 191)
    return [row for row in LEAD.begun() if len(row) == 3 and (row[1] in (128, 143, 144, 191) or row[1] % 16 == 5)
            and row[2] in third]


class Numbers(unittest.TestCase):
    def test_its_numbers(self):
        tongue = LeadTongue()
        self.assertEqual((tongue.pages(), tongue.unit(), tongue.most()), (1, 1, 4))


class Spelled(unittest.TestCase):
    def test_written_out(self):
        for sign, row in WRITTEN:
            self.assertEqual(LeadTongue().spell(sign), (row, 0))

    def test_signs_of_every_length(self):
        check_spelled(self, LeadTongue(), LEAD, many_signs())

    def test_what_is_no_sign_is_refused(self):
        for thing in not_signs():
            check_no_sign(self, LeadTongue().spell, thing, 0, thing)
            check_no_sign(self, LeadTongue().spell, thing, 0, sign=thing, page=0)


class Looked(unittest.TestCase):
    def test_written_out(self):
        tongue = LeadTongue()
        for sign, row in WRITTEN:
            for size in range(1, len(row)):
                self.assertEqual(tongue.look(row[:size]), ("more", None, 0))
            self.assertEqual(tongue.look(row), ("sign", sign, 0))

    def test_first_bytes(self):
        tongue = LeadTongue()
        for byte in range(256):
            lengths = [length for firsts, length in LENGTHS if byte in firsts]
            if not lengths:
                self.assertEqual(tongue.look([byte]), ("none", None, 0))
            elif lengths == [1]:
                self.assertEqual(tongue.look([byte]), ("sign", byte, 0))
            else:
                self.assertEqual(tongue.look([byte]), ("more", None, 0))

    def test_second_bytes(self):
        tongue = LeadTongue()
        for first in range(194, 245):
            least, greatest = SECONDS.get(first, (128, 191))
            for byte in range(256):
                told = tongue.look([first, byte])
                if not least <= byte <= greatest:
                    self.assertEqual(told, ("none", None, 0))
                elif first < 224:
                    self.assertEqual(told, ("sign", (first - 192) * 64 + byte - 128, 0))
                else:
                    self.assertEqual(told, ("more", None, 0))

    def test_every_begun_row_to_three_bytes(self):
        check_looked(self, LeadTongue(), LEAD, with_a_byte([row for row in LEAD.begun() if len(row) < 3]))

    def test_begun_rows_of_four_bytes(self):
        check_looked(self, LeadTongue(), LEAD, with_a_byte(long_beginnings()))

    def test_whole_rows_and_their_beginnings(self):
        tongue = LeadTongue()
        for sign in many_signs():
            row = list(LEAD.row(sign))
            told = [tongue.look(row[:size]) for size in range(1, len(row) + 1)]
            if told != [("more", None, 0)] * (len(row) - 1) + [("sign", sign, 0)]:
                self.fail((sign, told))

    def test_the_page_is_told_or_left_out(self):
        check_page_told_or_not(self, LeadTongue(), 65, [[65], [194], [194, 128], [128], [224, 128], [255]])


class Filled(unittest.TestCase):
    def test_rows_of_no_byte_to_two_bytes(self):
        check_filled(self, LeadTongue(), LEAD, [b""] + with_a_byte([b""]))
        check_filled(self, LeadTongue(), LEAD, with_a_byte([bytes([byte]) for byte in range(256)]))

    def test_rows_of_three_bytes(self):
        check_filled(self, LeadTongue(), LEAD, with_a_byte([row for row in LEAD.begun() if len(row) == 2]))

    def test_rows_of_four_bytes(self):
        check_filled(self, LeadTongue(), LEAD, with_a_byte(long_beginnings()))
        check_filled(self, LeadTongue(), LEAD, [row for row in LEAD.begun() if len(row) == 3])

    def test_rows_that_go_on_behind_a_sign(self):
        rows = [row + [byte] for sign, row in WRITTEN for byte in (0, 65, 128, 160, 191, 194, 255)]
        check_filled(self, LeadTongue(), LEAD, rows + [row + row for sign, row in WRITTEN] + [[65] * 2000])

    def test_rows_that_break_in_the_midst(self):
        rows = ([194, 65], [224, 159], [225, 65, 128], [240, 143, 128], [241, 128, 65, 128], [241, 65, 128, 128],
                [128, 128], [192, 128], [255, 65], [237, 160, 128], [238, 188, 128], [244, 144, 128, 128])
        check_filled(self, LeadTongue(), LEAD, rows)
        for row in rows:
            self.assertIsNone(LeadTongue().fill(list(row)))

    def test_whole_rows_want_nothing(self):
        for sign, row in WRITTEN:
            self.assertEqual(LeadTongue().fill(list(row)), [])


class Spots(unittest.TestCase):
    def test_spots(self):
        check_spots(self, LeadTongue(), LEAD)


class LeftAlone(unittest.TestCase):
    def test_nothing_is_held_on_to(self):
        rows = [row[:size] for sign, row in WRITTEN for size in range(len(row) + 1)] + [[255], [224, 128]]
        check_left_alone(self, LeadTongue(), [sign for sign, row in WRITTEN], [row for row in rows if row], rows)

    def test_two_of_them_answer_alike(self):
        one = LeadTongue()
        for sign, row in WRITTEN:
            one.spell(sign)[0].append(-1)
            one.fill([])
            self.assertEqual(LeadTongue().spell(sign), (row, 0))


if __name__ == "__main__":
    unittest.main()
