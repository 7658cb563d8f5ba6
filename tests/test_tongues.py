"""A tongue by itself [10a], and where the others stand."""

import unittest

from bytetongue.lead import LeadTongue
from bytetongue.pairs import PairTongue
from bytetongue.shifts import ShiftTongue
from bytetongue.tables import TableTongue
from bytetongue.tongues import Tongue
from bytetongue.writing import write
from tests.helper import BORDERS, check_left_alone, check_no_sign, check_page_told_or_not, near, not_signs

ROWS = ([], [0], [65], [255], [65, 66], [195, 164], [216, 0], [0, 216, 0], [240, 144, 128, 128], [1] * 2000)


class ByItself(unittest.TestCase):
    def setUp(self):
        self.tongue = Tongue()

    def test_its_numbers(self):
        self.assertEqual((self.tongue.pages(), self.tongue.unit(), self.tongue.most()), (1, 1, 0))

    def test_it_has_no_spot(self):
        self.assertEqual(self.tongue.spots(), [])

    def test_anything_spelled_is_refused(self):
        for thing in not_signs() + near(BORDERS):
            check_no_sign(self, self.tongue.spell, thing, 0, thing)
            check_no_sign(self, self.tongue.spell, thing, 0, thing, 0)
            check_no_sign(self, self.tongue.spell, thing, 0, sign=thing, page=0)

    def test_each_byte_looked_at_is_none(self):
        for byte in range(256):
            self.assertEqual(self.tongue.look([byte]), ("none", None, 0))
            self.assertEqual(self.tongue.look([byte], 0), ("none", None, 0))
            self.assertEqual(self.tongue.look(begun=[byte], page=0), ("none", None, 0))

    def test_each_row_filled_is_none(self):
        for row in list(ROWS) + [[byte] for byte in range(256)]:
            self.assertIsNone(self.tongue.fill(list(row)))
            self.assertIsNone(self.tongue.fill(list(row), 0))
            self.assertIsNone(self.tongue.fill(row=list(row), page=0))

    def test_only_the_text_without_signs_is_written(self):
        self.assertEqual(write(self.tongue, []), [])
        for thing in not_signs() + near(BORDERS):
            check_no_sign(self, write, thing, 0, self.tongue, [thing])
            check_no_sign(self, write, thing, 0, self.tongue, [thing, 65, 66])

    def test_nothing_is_held_on_to(self):
        check_left_alone(self, self.tongue, [], [[byte] for byte in range(256)], [list(row) for row in ROWS])


class Standing(unittest.TestCase):
    def test_the_other_tongues_stand_under_it(self):
        for tongue in (LeadTongue(), PairTongue(), PairTongue("low"), ShiftTongue([65], [66]),
                       TableTongue([(65, [1])])):
            self.assertIsInstance(tongue, Tongue)
        kinds = (LeadTongue, PairTongue, ShiftTongue, TableTongue)
        for kind in kinds:
            self.assertEqual([other for other in kinds if issubclass(kind, other)], [kind])

    def test_the_page_is_told_or_left_out(self):
        for tongue, row in ((LeadTongue(), [65]), (PairTongue(), [0, 65]), (PairTongue("low"), [65, 0]),
                            (ShiftTongue([64], [65]), [255]), (TableTongue([(65, [1, 2])]), [1])):
            check_page_told_or_not(self, tongue, 65, [row])


if __name__ == "__main__":
    unittest.main()
