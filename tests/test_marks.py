"""Texts with the mark ahead, and rows without it [13], [2]."""

import unittest

from bytetongue.errors import NoOrder
from bytetongue.marks import marked, unmarked
from tests.helper import BORDERS, check_no_sign, check_told_anew, is_sign_number, near, not_orders, not_signs, refusal

HIGH_MARK = [254, 255]
LOW_MARK = [255, 254]
ORDERS = (("high", HIGH_MARK, "utf-16-be"), ("low", LOW_MARK, "utf-16-le"))
GOOD = [0, 65, 255, 256, 55295, 57344, 61183, 61440, 65279, 65534, 65535, 65536, 1114111]
TEXTS = ([], [65], [0], [1114111], [65279], [65279, 65279], [65279, 65, 65279], [65534], [65534, 65279], GOOD,
         GOOD[::-1], [number for number in near(BORDERS) if is_sign_number(number)], [65536] * 400)


class Marked(unittest.TestCase):
    def test_written_out(self):
        self.assertEqual(marked([97, 128512]), [254, 255, 0, 97, 216, 61, 222, 0])
        self.assertEqual(marked([97, 128512], "high"), [254, 255, 0, 97, 216, 61, 222, 0])
        self.assertEqual(marked([97, 128512], "low"), [255, 254, 97, 0, 61, 216, 0, 222])

    def test_the_mark_and_the_row(self):
        for order, mark, codec in ORDERS:
            for text in TEXTS:
                told = marked(list(text), order)
                self.assertIs(type(told), list)
                self.assertEqual(told, mark + list("".join([chr(sign) for sign in text]).encode(codec)))

    def test_the_text_without_signs(self):
        self.assertEqual(marked([]), HIGH_MARK)
        self.assertEqual(marked([], "low"), LOW_MARK)

    def test_a_text_that_begins_with_the_mark(self):
        self.assertEqual(marked([65279]), HIGH_MARK + HIGH_MARK)
        self.assertEqual(marked([65279, 65], "low"), LOW_MARK + LOW_MARK + [65, 0])

    def test_high_where_no_order_is_told(self):
        for text in TEXTS:
            self.assertEqual(marked(list(text)), marked(list(text), "high"))

    def test_the_names_of_what_is_handed_in(self):
        self.assertEqual(marked(text=[65], order="low"), [255, 254, 65, 0])
        self.assertEqual(unmarked(row=[255, 254, 65, 0]), ("low", [65, 0]))


class Refused(unittest.TestCase):
    def test_an_order_that_is_none(self):
        for thing in not_orders():
            refusal(self, NoOrder, marked, [65], thing)
            refusal(self, NoOrder, marked, text=[], order=thing)

    def test_the_order_ahead_of_the_signs(self):
        for thing in not_orders():
            refusal(self, NoOrder, marked, [-1], thing)
            refusal(self, NoOrder, marked, [65, None], thing)
        for thing in not_signs():
            refusal(self, NoOrder, marked, [thing], "middle")

    def test_a_thing_that_is_no_sign_at_its_place_in_the_text(self):
        for order, mark, codec in ORDERS:
            for thing in not_signs():
                check_no_sign(self, marked, thing, 0, [thing], order)
                for place in range(len(GOOD) + 1):
                    check_no_sign(self, marked, thing, place, GOOD[:place] + [thing] + GOOD[place:], order)
        check_no_sign(self, marked, None, 1, [65279, None])

    def test_the_first_of_several(self):
        for order, mark, codec in ORDERS:
            check_no_sign(self, marked, 55296, 1, [65, 55296, 57343], order)
            check_no_sign(self, marked, 61184, 399, [65] * 399 + [61184], order)


class Unmarked(unittest.TestCase):
    def told(self, row, order, rest):
        told = unmarked(list(row))
        self.assertEqual(told, (order, rest), row)
        self.assertIs(type(told), tuple)
        self.assertIs(type(told[1]), list)

    def test_a_marked_row_taken_apart(self):
        for order, mark, codec in ORDERS:
            for text in TEXTS:
                row = marked(list(text), order)
                self.told(row, order, row[2:])

    def test_each_row_of_two_bytes(self):
        for one in range(256):
            for other in range(256):
                row = [one, other]
                told = unmarked(row)
                if row == HIGH_MARK:
                    self.assertEqual(told, ("high", []))
                elif row == LOW_MARK:
                    self.assertEqual(told, ("low", []))
                elif told != (None, row):
                    self.fail((row, told))

    def test_the_row_without_bytes_and_rows_of_one(self):
        self.told([], None, [])
        for byte in range(256):
            self.told([byte], None, [byte])

    def test_only_the_first_mark_is_taken_away(self):
        self.told(HIGH_MARK + HIGH_MARK, "high", HIGH_MARK)
        self.told(HIGH_MARK + LOW_MARK, "high", LOW_MARK)
        self.told(LOW_MARK + HIGH_MARK, "low", HIGH_MARK)
        self.told(LOW_MARK + LOW_MARK + LOW_MARK, "low", LOW_MARK + LOW_MARK)

    def test_a_mark_that_does_not_stand_ahead(self):
        for row in ([0] + HIGH_MARK, [0, 0] + LOW_MARK, [254, 254, 255], [255, 255, 254], [255] * 2000):
            self.told(row, None, row)

    def test_rests_that_are_no_text(self):
        for order, mark, codec in ORDERS:
            for rest in ([0], [220], [220, 0], [216, 0, 0, 65], [239, 0, 1], [255] * 1998):
                self.told(mark + rest, order, rest)


class LeftAlone(unittest.TestCase):
    def test_what_is_handed_in_stays_as_it_was(self):
        for order, mark, codec in ORDERS:
            for text in TEXTS:
                handed = list(text)
                marked(handed, order)
                self.assertEqual(handed, list(text))
            handed = [65, None]
            check_no_sign(self, marked, None, 1, handed, order)
            self.assertEqual(handed, [65, None])
        for row in ([], [65], HIGH_MARK + [0, 65], LOW_MARK, [255, 255, 254]):
            handed = list(row)
            unmarked(handed)
            self.assertEqual(handed, row)

    def test_what_is_told_may_be_changed(self):
        text = [65279, 65]
        check_told_anew(self, [lambda: marked(text), lambda: marked(text, "low")])
        self.assertEqual(text, [65279, 65])
        for row in ([], [65], HIGH_MARK + [0, 65], LOW_MARK + [65, 0], LOW_MARK):
            handed = list(row)
            check_told_anew(self, [lambda: unmarked(handed)])
            self.assertEqual(handed, row)

    def test_the_row_told_is_another_list(self):
        for row in ([], [65], [0, 65]):
            self.assertIsNot(unmarked(row)[1], row)
            told = unmarked(row)[1]
            row.append(66)
            self.assertEqual(told, row[:-1])


if __name__ == "__main__":
    unittest.main()
