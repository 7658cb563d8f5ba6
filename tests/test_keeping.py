"""Whether texts and their rows stand in the same order [31], [6], [2]."""

import itertools
import unittest

from bytetongue.keeping import disorder
from bytetongue.lead import LeadTongue
from bytetongue.pairs import PairTongue
from bytetongue.shifts import ShiftTongue
from bytetongue.signs import is_text
from bytetongue.tables import TableTongue
from bytetongue.tongues import Tongue
from bytetongue.writing import write
from tests.helper import (HIGH, LEAD, LOW, NOTHING, SHIFT_LISTS, TABLES, check_told_anew, known_written, many_signs,
                          shift_known, small_codes, table_known)


def keeps_order(known, signs):
    """Whether all texts of up to three of these signs stand as their rows do."""
    texts = sorted(text for many in range(4) for text in itertools.product(signs, repeat=many))
    rows = [known_written(known, text)[0] for text in texts]
    return rows == sorted(rows)


class Case(unittest.TestCase):
    def check(self, tongue, known, kept):
        told = disorder(tongue)
        if kept:
            self.assertIsNone(told)
            return
        self.assertIs(type(told), tuple)
        self.assertEqual([type(text) for text in told], [list, list])
        first, second = told
        self.assertTrue(is_text(first) and is_text(second), told)
        # Python's own lists stand in the document's order.
        self.assertLess(first, second)
        self.assertLess(known_written(known, second)[0], known_written(known, first)[0], told)
        self.assertLess(write(tongue, second), write(tongue, first), told)

    def check_shift(self, first, second):
        known = shift_known(first, second)
        kept = keeps_order(known, known.signs())
        self.check(ShiftTongue(first, second), known, kept)
        return kept

    def check_table(self, rows):
        known = table_known(rows)
        kept = keeps_order(known, known.signs())
        self.check(TableTongue(rows), known, kept)
        return kept


class LeadAndPairs(Case):
    def test_the_lead_tongue_keeps_it(self):
        self.check(LeadTongue(), LEAD, True)
        rows = [write(LeadTongue(), [sign]) for sign in many_signs()]
        self.assertEqual(rows, sorted(rows))

    def test_the_pair_tongues_do_not(self):
        self.check(PairTongue(), HIGH, False)
        self.check(PairTongue("high"), HIGH, False)
        self.check(PairTongue("low"), LOW, False)

    def test_a_tongue_by_itself_keeps_it(self):
        self.check(Tongue(), NOTHING, True)


class Shifts(Case):
    def test_all_lists_of_up_to_three_signs(self):
        lists = [list(some) for many in range(4) for some in itertools.permutations((65, 66, 67), many)]
        kept = {self.check_shift(first, second) for first in lists for second in lists}
        self.assertEqual(kept, {True, False})

    def test_lists_with_signs_between(self):
        lists = [[], [66], [65, 68], [68, 65], [66, 67], [65, 66, 67, 68], [1114111], [0, 1114111], [70, 65]]
        for first in lists:
            for second in lists:
                self.check_shift(first, second)

    def test_the_lists_of_other_tests(self):
        for first, second in SHIFT_LISTS:
            self.check_shift(first, second)

    def test_written_out(self):
        for first, second, kept in (
                ([], [], True), ([65], [], True), ([], [65], True), ([65, 66], [], True), ([66, 65], [], False),
                ([], [65, 66], True), ([], [66, 65], False), ([65], [66], False), ([66], [65], False),
                ([65], [65, 66], True), ([66], [65, 66], False), ([65], [66, 65], False), ([65, 66], [66, 67], False)):
            self.assertIs(self.check_shift(first, second), kept, (first, second))
            self.assertIs(disorder(ShiftTongue(first, second)) is None, kept, (first, second))

    def test_pages_to_which_no_text_goes_count_for_nothing(self):
        for first, second in (([65, 66], [66, 65]), ([65, 66, 67], [66, 65]), ([65, 66], [66]), ([65, 67], [67, 65])):
            self.assertTrue(self.check_shift(first, second))
            self.assertIsNone(disorder(ShiftTongue(first, second)))

    def test_disorder_at_the_page_behind_a_shift_only(self):
        for first, second in (([65], [66]), ([65, 66], [66, 67]), ([65], [67, 66, 65]), ([], [65, 67, 66])):
            self.assertFalse(self.check_shift(first, second))
        # At page 0 the rows are 0 and 255, 0; at page 1 they are 254, 0 and 0.
        self.assertEqual(disorder(ShiftTongue([65], [66])), ([66, 65], [66, 66]))

    def test_long_lists(self):
        rising = list(range(250))
        for first, second, kept in ((rising, [], True), ([], rising, True), (rising, rising[::-1], True),
                                    (rising[:-2] + [249, 248], [], False), (rising, list(range(250, 500)), False),
                                    (rising[:9], rising, True), (rising[::-1], [], False),
                                    (rising[:9], rising[:240] + [241, 240], False)):
            self.check(ShiftTongue(first, second), shift_known(first, second), kept)


class Tables(Case):
    def test_small_tables_with_their_signs_in_some_orders(self):
        met = set()
        for code in small_codes():
            signs = list(range(65, 65 + len(code)))
            orders = [signs, signs[::-1], signs[1:] + signs[:1], signs[::2] + signs[1::2]]
            if len(code) < 4:
                orders = itertools.permutations(signs)
            for order in orders:
                rows = list(zip(order, code))
                known = table_known(rows)
                told_by_rows = [sign for row, (sign, page) in sorted(known.rows[0].items())]
                kept = told_by_rows == sorted(told_by_rows)
                self.check(TableTongue(rows), known, kept)
                met.add(kept)
        self.assertEqual(met, {True, False})

    def test_texts_of_small_tables(self):
        for code in small_codes()[::7]:
            for turn in (1, -1):
                self.check_table(list(zip(range(65, 65 + len(code))[::turn], code)))

    def test_the_order_of_the_tuples_does_not_matter(self):
        rows = [(67, [3]), (65, [1]), (66, [2, 2])]
        for some in itertools.permutations(rows):
            self.assertIsNone(disorder(TableTongue(list(some))))
        rows = [(66, [3]), (65, [1]), (67, [2, 2])]
        for some in itertools.permutations(rows):
            self.assertEqual(disorder(TableTongue(list(some))), ([66], [67]))

    def test_the_tables_of_other_tests(self):
        for rows in TABLES:
            self.check_table(rows)

    def test_large_tables(self):
        for step in range(1, 64, 2):
            rows = [(sign * step % 64, [7, sign // 8, sign % 8]) for sign in range(64)]
            self.check(TableTongue(rows), table_known(rows), step == 1)
        rows = [(sign, [sign] + [9] * (sign % 6)) for sign in range(64)]
        self.check(TableTongue(rows), table_known(rows), True)
        rows[40], rows[41] = (41, [40]), (40, [41, 0])
        self.check(TableTongue(rows), table_known(rows), False)

    def test_one_sign_and_none(self):
        self.assertIsNone(disorder(TableTongue([])))
        self.assertIsNone(disorder(TableTongue([(65, [255])])))


class LeftAlone(unittest.TestCase):
    def test_what_is_told_may_be_changed(self):
        for tongue in (LeadTongue(), PairTongue(), PairTongue("low"), Tongue(), ShiftTongue([65, 66], [66, 67]),
                       ShiftTongue([66, 65], []), TableTongue([(66, [1]), (65, [2])])):
            check_told_anew(self, [lambda: disorder(tongue)])

    def test_the_name_of_what_is_handed_in(self):
        self.assertIsNone(disorder(tongue=LeadTongue()))


if __name__ == "__main__":
    unittest.main()
