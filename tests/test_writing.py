"""Texts written whole [8], in the lead tongue and the pair tongues [11], [12]."""

import unittest

from bytetongue.errors import NoSign
from bytetongue.lead import LeadTongue
from bytetongue.pairs import PairTongue
from bytetongue.tongues import Tongue
from bytetongue.writing import write
from tests.helper import check_no_sign, many_signs, not_signs

TONGUES = ((LeadTongue(), "utf-8"), (PairTongue(), "utf-16-be"), (PairTongue("low"), "utf-16-le"))
GOOD = [0, 65, 127, 128, 2047, 2048, 55295, 57344, 61183, 61440, 65279, 65535, 65536, 1114111]


class Leaping(Tongue):
    """Every number is a sign here; its row is the page and the number, and it goes to the page of its last digit."""

    def pages(self):
        return 10

    def spell(self, sign, page=0):
        if not isinstance(sign, int):
            raise NoSign(sign, 0)
        return ([100 + page, sign], sign % 10)


def texts():
    signs = list(many_signs())
    pieces = [signs[first:first + 400] for first in range(0, len(signs), 400)]
    return [[], [0], [65], [65, 65], [1114111, 0, 1114111], [65279], [65279, 65279], GOOD, GOOD[::-1]] + pieces


class Written(unittest.TestCase):
    def test_rows_stand_end_to_end(self):
        for tongue, codec in TONGUES:
            for text in texts():
                row = write(tongue, text)
                self.assertIs(type(row), list)
                self.assertEqual(row, list("".join([chr(sign) for sign in text]).encode(codec)))

    def test_written_out(self):
        text = [97, 228, 8364, 128512]
        self.assertEqual(write(LeadTongue(), text), [97, 195, 164, 226, 130, 172, 240, 159, 152, 128])
        self.assertEqual(write(PairTongue("high"), text), [0, 97, 0, 228, 32, 172, 216, 61, 222, 0])
        self.assertEqual(write(PairTongue("low"), text), [97, 0, 228, 0, 172, 32, 61, 216, 0, 222])

    def test_the_text_without_signs(self):
        for tongue in (Tongue(), LeadTongue(), PairTongue(), PairTongue("low")):
            self.assertEqual(write(tongue, []), [])

    def test_each_sign_at_the_page_to_which_the_one_ahead_went(self):
        self.assertEqual(write(Leaping(), [7]), [100, 7])
        self.assertEqual(write(Leaping(), [7, 20, 33, 33, 11]), [100, 7, 107, 20, 100, 33, 103, 33, 103, 11])
        self.assertEqual(write(Leaping(), [7]), [100, 7])
        check_no_sign(self, write, None, 2, Leaping(), [7, 8, None])

    def test_the_names_of_what_is_handed_in(self):
        self.assertEqual(write(tongue=LeadTongue(), text=[65]), [65])


class Refused(unittest.TestCase):
    def test_what_is_no_sign_at_any_place(self):
        for tongue, codec in TONGUES:
            for thing in not_signs():
                for place in range(len(GOOD) + 1):
                    check_no_sign(self, write, thing, place, tongue, GOOD[:place] + [thing] + GOOD[place:])

    def test_the_first_of_several(self):
        for tongue, codec in TONGUES:
            check_no_sign(self, write, 55296, 1, tongue, [65, 55296, 57343, 55296])
            check_no_sign(self, write, True, 0, tongue, [True, -1, None])
            check_no_sign(self, write, 61184, 399, tongue, [65] * 399 + [61184, "A"])

    def test_halves_of_one_sign_are_no_signs(self):
        for tongue, codec in TONGUES:
            check_no_sign(self, write, 55357, 0, tongue, [55357, 56832])

    def test_a_refusal_leaves_nothing_behind(self):
        for tongue, codec in TONGUES:
            before = write(tongue, GOOD)
            check_no_sign(self, write, -1, 2, tongue, [65, 66, -1])
            self.assertEqual(write(tongue, GOOD), before)


class LeftAlone(unittest.TestCase):
    def test_what_is_handed_in_stays_as_it_was(self):
        for tongue, codec in TONGUES:
            text = list(GOOD)
            write(tongue, text)
            self.assertEqual(text, GOOD)
            text = GOOD + [None]
            check_no_sign(self, write, None, len(GOOD), tongue, text)
            self.assertEqual(text, GOOD + [None])

    def test_what_is_told_may_be_changed(self):
        for tongue, codec in TONGUES:
            for text in ([], [65], list(GOOD)):
                kept = list(text)
                row = write(tongue, text)
                first = list(row)
                row.append(-1)
                row[0] = -1
                self.assertEqual(text, kept)
                self.assertEqual(write(tongue, text), first)

    def test_the_text_is_read_anew_each_time(self):
        for tongue, codec in TONGUES:
            text = [65]
            row = write(tongue, text)
            kept = list(row)
            text.append(66)
            self.assertEqual(row, kept)
            self.assertEqual(len(write(tongue, text)), 2 * len(kept))


if __name__ == "__main__":
    unittest.main()
