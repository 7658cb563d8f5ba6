"""Shift tongues [8], [9], [10], [14], [2]."""

import unittest

from bytetongue.errors import BadPage
from bytetongue.shifts import ShiftTongue
from bytetongue.writing import write
from tests.helper import (all_signs, check_filled, check_left_alone, check_looked, check_no_sign,
                          check_page_told_or_not, check_spelled, check_spots, check_told_anew, not_signs, refusal,
                          shift_known, with_a_byte)

FULL = list(range(250))
LISTS = (
    ([], []), ([65], []), ([], [65]), ([0], [0]), ([65], [66]), ([0], [1114111]),
    ([65, 66], [66, 67]), ([65, 66], [66, 65]), ([65, 66, 67], [66]), ([66], [65, 66, 67]), ([65, 66], [65, 66]),
    ([66], [67, 66]), ([67, 66], [66]), ([254, 255, 1, 0], [255, 65279, 0, 254]),
    ([0, 55295, 57344, 61183], [61440, 65535, 65536, 1114111]),
    (FULL, []), ([], FULL), (FULL, FULL), (FULL, FULL[::-1]), (FULL, [1000 + sign for sign in FULL]),
    (FULL[:249], FULL), (FULL, FULL[:249]), (FULL[:125] + [700], FULL[100:]), (FULL, FULL[:249] + [5000]),
)
ALL_BYTES = [[byte] for byte in range(256)]


def begun_rows(known, page):
    """Each begun row of one and of two bytes at the page."""
    return with_a_byte(known.begun(page))


class Case(unittest.TestCase):
    def each(self):
        """Each tongue, and what is known of it."""
        for first, second in LISTS:
            yield ShiftTongue(list(first), list(second)), shift_known(first, second)

    def each_page(self):
        for tongue, known in self.each():
            for page in (0, 1):
                yield tongue, known, page


class Numbers(Case):
    def test_pages_and_unit(self):
        for tongue, known in self.each():
            self.assertEqual((tongue.pages(), tongue.unit()), (2, 1))

    def test_most(self):
        for tongue, known in self.each():
            self.assertEqual(tongue.most(), known.most())

    def test_most_written_out(self):
        for first, second, most in (([], [], 0), ([65], [65], 1), ([65, 66], [66, 65], 1), (FULL, FULL[::-1], 1),
                                    ([65], [], 2), ([], [65], 2), ([65, 66], [66], 2), ([66], [65, 66], 2),
                                    ([65], [66], 2), ([65, 66], [66, 67], 2)):
            self.assertEqual(ShiftTongue(first, second).most(), most, (first, second))


class Told(Case):
    def test_the_lists_are_told_again(self):
        for first, second in LISTS:
            tongue = ShiftTongue(list(first), list(second))
            self.assertEqual((tongue.signs(0), tongue.signs(1)), (first, second))
            self.assertEqual(tongue.signs(), first)
            self.assertEqual(tongue.signs(page=1), second)
            self.assertIs(type(tongue.signs(1)), list)

    def test_the_names_of_what_is_handed_in(self):
        tongue = ShiftTongue(second=[66], first=[65])
        self.assertEqual((tongue.signs(0), tongue.signs(1)), ([65], [66]))


class Spelled(Case):
    def test_the_documents_own(self):
        tongue = ShiftTongue([65, 66], [66, 67])
        self.assertEqual(write(tongue, [67, 66, 65]), [255, 1, 0, 254, 0])
        self.assertEqual(tongue.spell(66), ([1], 0))
        self.assertEqual(tongue.spell(66, 1), ([0], 1))
        self.assertEqual(tongue.look([255, 0]), ("none", None, 0))

    def test_written_out(self):
        tongue = ShiftTongue([65, 66], [66, 67])
        for page, sign, told in ((0, 65, ([0], 0)), (0, 66, ([1], 0)), (0, 67, ([255, 1], 1)),
                                 (1, 65, ([254, 0], 0)), (1, 66, ([0], 1)), (1, 67, ([1], 1))):
            self.assertEqual(tongue.spell(sign, page), told)

    def test_each_sign_at_both_pages(self):
        for tongue, known, page in self.each_page():
            check_spelled(self, tongue, known, known.signs(), page)

    def test_what_it_has_not_is_refused(self):
        for tongue, known, page in self.each_page():
            others = [sign for sign in all_signs()[:600:7] + all_signs()[600::90001] if sign not in known.signs()]
            for thing in not_signs() + others:
                check_no_sign(self, tongue.spell, thing, 0, thing, page)
                check_no_sign(self, tongue.spell, thing, 0, sign=thing, page=page)

    def test_things_that_are_like_one_of_its_signs(self):
        for tongue in (ShiftTongue([0, 1, 65], []), ShiftTongue([], [0, 1, 65])):
            for page in (0, 1):
                for thing in (True, False, 65.0, 1.0, 0.0, 65 + 0j, "65", [65]):
                    check_no_sign(self, tongue.spell, thing, 0, thing, page)


class Written(Case):
    def test_texts_go_from_page_to_page(self):
        tongue = ShiftTongue([65, 66], [66, 67])
        for text, row in (([], []), ([65], [0]), ([67], [255, 1]), ([67, 67], [255, 1, 1]),
                          ([66, 67, 66], [1, 255, 1, 0]), ([67, 65, 67], [255, 1, 254, 0, 255, 1]),
                          ([67, 66, 66, 65, 66], [255, 1, 0, 0, 254, 0, 1])):
            self.assertEqual(write(tongue, text), row)

    def test_each_text_begins_at_page_0(self):
        tongue = ShiftTongue([65], [66])
        for time in range(3):
            self.assertEqual(write(tongue, [66, 66]), [255, 0, 0])

    def test_no_text_goes_to_a_page_without_signs_of_its_own(self):
        self.assertEqual(write(ShiftTongue([65, 66], [66]), [66, 65, 66]), [1, 0, 1])
        self.assertEqual(write(ShiftTongue([], [65, 66]), [66, 65, 66]), [255, 1, 0, 1])

    def test_what_it_has_not_is_refused_at_its_place(self):
        tongue = ShiftTongue([65, 66], [66, 67])
        for thing in not_signs() + [64, 68, 0]:
            for place in range(4):
                text = [67, 66, 65]
                text.insert(place, thing)
                check_no_sign(self, write, thing, place, tongue, text)


class Looked(Case):
    def test_each_begun_row(self):
        for tongue, known, page in self.each_page():
            check_looked(self, tongue, known, begun_rows(known, page), page)

    def test_first_bytes_where_there_is_no_sign(self):
        for page in (0, 1):
            for row in ALL_BYTES:
                self.assertEqual(ShiftTongue([], []).look(list(row), page), ("none", None, page))

    def test_a_shift_byte_that_leads_to_nothing(self):
        tongue = ShiftTongue([65, 66], [66])
        self.assertEqual(tongue.look([255], 0), ("none", None, 0))
        self.assertEqual(tongue.look([254], 0), ("none", None, 0))
        self.assertEqual(tongue.look([254], 1), ("more", None, 1))
        self.assertEqual(tongue.look([255], 1), ("none", None, 1))
        self.assertEqual(tongue.look([254, 0], 1), ("sign", 65, 0))
        self.assertEqual(tongue.look([254, 1], 1), ("none", None, 1))

    def test_the_page_is_told_or_left_out(self):
        rows = [[0], [1], [2], [254], [255], [255, 0], [255, 1]]
        check_page_told_or_not(self, ShiftTongue([65, 66], [66, 67]), 67, rows)


class Filled(Case):
    def test_rows_of_up_to_two_bytes(self):
        for tongue, known, page in self.each_page():
            check_filled(self, tongue, known, [[]] + ALL_BYTES, page)
            check_filled(self, tongue, known, with_a_byte([[0], [1], [249], [250], [253], [254], [255]]), page)

    def test_every_row_of_two_bytes(self):
        rows = with_a_byte(ALL_BYTES)
        for first, second in LISTS:
            for page in (0, 1):
                check_filled(self, ShiftTongue(first, second), shift_known(first, second), rows, page)

    def test_longer_rows(self):
        for tongue, known, page in self.each_page():
            for row in known.rows[page]:
                for more in ([0, 0], [255, 1], [254, 0], [1] * 100):
                    self.assertIsNone(tongue.fill(list(row) + more, page))

    def test_where_there_is_no_sign(self):
        for page in (0, 1):
            for row in [[]] + ALL_BYTES:
                self.assertIsNone(ShiftTongue([], []).fill(list(row), page))


class Spots(Case):
    def test_spots(self):
        for tongue, known in self.each():
            check_spots(self, tongue, known)

    def test_written_out(self):
        for first, second, spots in (([], [], []), ([65], [65], [(0, []), (1, [])]),
                                     ([65], [], [(0, []), (1, []), (1, [254])]),
                                     ([], [65], [(0, []), (0, [255]), (1, [])]),
                                     ([65], [66], [(0, []), (0, [255]), (1, []), (1, [254])])):
            self.assertEqual(sorted(ShiftTongue(first, second).spots()), spots)


class Refused(unittest.TestCase):
    GOOD = ([], [65], [65, 66, 67], FULL)

    def check(self, which, first, second):
        error = refusal(self, BadPage, ShiftTongue, list(first), list(second))
        self.assertIs(type(error.which), int)
        self.assertEqual(error.which, which)

    def check_bad(self, bad):
        """In the first list, in the second, and in both."""
        for good in self.GOOD:
            self.check(0, bad, good)
            self.check(1, good, bad)
        self.check(0, bad, bad)

    def test_more_than_250_things(self):
        for many in (251, 252, 255, 256, 300, 400):
            self.check_bad(list(range(many)))
            self.check_bad([None] * many)

    def test_a_thing_that_is_no_sign(self):
        for thing in not_signs():
            for bad in ([thing], [65, thing], [thing, 65], [65, thing, 66], [thing, thing], FULL[:249] + [thing]):
                self.check_bad(bad)

    def test_a_sign_twice(self):
        for bad in ([0, 0], [65, 65], [65, 66, 65], [65, 66, 66], [65, 65, 66], [1114111, 0, 1114111], FULL[:249] + [0],
                    FULL[:249] + [248], [65] * 250):
            self.check_bad(bad)

    def test_the_first_bad_list_is_told_however_each_is_bad(self):
        bads = (FULL + [250], [None], [65, 65], [65, 55296], [[65]])
        for one in bads:
            for other in bads:
                self.check(0, one, other)

    def test_a_sign_in_both_lists_is_none_twice(self):
        self.assertEqual(ShiftTongue(FULL, FULL).signs(1), FULL)

    def test_things_that_are_alike_to_a_sign_ahead(self):
        for bad in ([1, True], [True, 1], [0, False], [65, 65.0], [65.0, 65]):
            self.check_bad(bad)

    def test_a_refusal_leaves_the_lists_as_they_were(self):
        for bad in (FULL + [250], [65, None], [65, 65]):
            first = [65, 66]
            second = list(bad)
            refusal(self, BadPage, ShiftTongue, first, second)
            refusal(self, BadPage, ShiftTongue, second, first)
            self.assertEqual((first, second), ([65, 66], bad))


class LeftAlone(Case):
    def test_nothing_is_held_on_to(self):
        for first, second in (([65, 66], [66, 67]), ([], [65]), ([65], []), (FULL, [1000 + sign for sign in FULL])):
            tongue = ShiftTongue(first, second)
            known = shift_known(first, second)
            for page in (0, 1):
                rows = [list(row) for row in known.beginnings(page)] + [list(row) for row in known.rows[page]] + [[253]]
                check_left_alone(self, tongue, known.signs(), [row for row in rows if row], rows, page)
            check_told_anew(self, [tongue.signs, lambda: tongue.signs(1)])

    def test_the_lists_handed_in_stay_as_they_were(self):
        first = [65, 66]
        second = [66, 67]
        tongue = ShiftTongue(first, second)
        write(tongue, [67, 66, 65])
        tongue.signs(0).append(5)
        tongue.signs(1).clear()
        tongue.spots().clear()
        self.assertEqual((first, second), ([65, 66], [66, 67]))

    def test_lists_changed_behind(self):
        first = [65, 66]
        second = [66, 67]
        tongue = ShiftTongue(first, second)
        first[:] = [1, 2, 3]
        second.clear()
        self.assertEqual((tongue.signs(0), tongue.signs(1)), ([65, 66], [66, 67]))
        self.assertEqual(tongue.most(), 2)
        known = shift_known([65, 66], [66, 67])
        check_spots(self, tongue, known)
        for page in (0, 1):
            check_spelled(self, tongue, known, known.signs(), page)
            check_looked(self, tongue, known, begun_rows(known, page), page)
            check_filled(self, tongue, known, [[]] + ALL_BYTES + begun_rows(known, page), page)
            check_no_sign(self, tongue.spell, 1, 0, 1, page)

    def test_one_list_handed_in_twice(self):
        both = [65, 66]
        tongue = ShiftTongue(both, both)
        tongue.signs(0).append(67)
        self.assertEqual((tongue.signs(0), tongue.signs(1), both), ([65, 66], [65, 66], [65, 66]))

    def test_two_of_them_do_not_mix(self):
        one = ShiftTongue([65], [66])
        other = ShiftTongue([66], [65])
        self.assertEqual((one.spell(65), other.spell(65)), (([0], 0), ([255, 0], 1)))


if __name__ == "__main__":
    unittest.main()
