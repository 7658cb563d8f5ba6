"""Table tongues [8], [9], [10], [15], [2]."""

import unittest

from bytetongue.errors import BadTable
from bytetongue.tables import TableTongue
from bytetongue.writing import write
from tests.helper import (all_signs, check_filled, check_left_alone, check_looked, check_no_sign,
                          check_page_told_or_not, check_spelled, check_spots, check_told_anew, no_numbers, not_signs,
                          refusal, same_thing, table_known, with_a_byte)

BRANCHED = [(65, [1]), (66, [2, 1]), (67, [2, 2, 1]), (68, [2, 2, 2]), (69, [3, 1, 2, 3, 4, 5]),
            (70, [3, 1, 2, 3, 4, 6]), (71, [3, 1, 2, 4]), (72, [0, 255]), (73, [255, 0])]
# [1] and [2] go alike here, and so do [4, 1] and [5, 1]; [6] goes otherwise.
ALIKE = [(1, [1, 7]), (2, [2, 7]), (3, [4, 1, 0]), (4, [4, 1, 9]), (5, [5, 1, 0]), (6, [5, 1, 9]),
         (7, [6, 7]), (8, [6, 8])]
MANY = [(1000 * place, [place] * (place % 6 + 1)) for place in range(55)]
MANY += [(place, [200, place]) for place in range(1, 10)]
LONG = [(place + 1, [9, 9, 9, 9, place // 8, place % 8]) for place in range(64)]
TABLES = (
    [], [(0, [0])], [(65, [255])], [(1114111, [1, 2, 3, 4, 5, 6])], [(65, [0, 0, 0, 0, 0, 0])],
    [(65, [1]), (66, [2, 3])], [(65, [1, 2]), (66, [2, 1])],
    [(0, [0]), (55295, [1]), (57344, [2]), (61183, [3, 0]), (61440, [3, 1]), (65279, [3, 2])],
    [(66, [2]), (65, [1]), (67, [0])], BRANCHED, ALIKE, MANY, LONG, MANY[:63], LONG[::-1],
)
ALL_BYTES = [[byte] for byte in range(256)]


def entries(rows):
    """The table, each list of it made anew."""
    return [(sign, list(row)) for sign, row in rows]


def not_entries():
    """Things that are no tuples of a sign and a row of one to six bytes."""
    good = [1, 2, 3]
    pairs = [[65, good], (), (65,), (good,), (65, good, good), (65, good, 1), (good, 65), (65, 1), (65, (1, 2)),
             (65, b"ab"), (65, "ab"), (65, None), (65, {1: 2}), (65, {1}), (65, range(3)), (65, []), (65, [1] * 7),
             (65, [1] * 2000), (65, [[1]]), ((65, good),), [(65, good)], {65: good},
             {"sign": 65, "row": good}, (65, 1, 2)]
    pairs += [(thing, good) for thing in not_signs()]
    pairs += [(65, [thing]) for thing in no_numbers() + [-1, 256, 10 ** 60, 61184]]
    pairs += [(65, [1, 2, 3, 4, 5, thing]) for thing in (None, True, -1, 256)]
    pairs += [(65, [thing, 2, 3]) for thing in (False, 1.0, "1", 256)]
    return pairs + no_numbers() + [-1, 0, 65, 256]


class Case(unittest.TestCase):
    def each(self):
        """Each tongue, and what is known of it."""
        for rows in TABLES:
            yield TableTongue(entries(rows)), table_known(rows)


class Numbers(Case):
    def test_pages_unit_and_most(self):
        for tongue, known in self.each():
            self.assertEqual((tongue.pages(), tongue.unit(), tongue.most()), (1, 1, known.most()))

    def test_most_written_out(self):
        for rows, most in (([], 0), ([(65, [1])], 1), ([(65, [1]), (66, [2, 3])], 2), ([(65, [2, 3]), (66, [1])], 2),
                           (BRANCHED, 6), (LONG, 6)):
            self.assertEqual(TableTongue(rows).most(), most)


class Told(Case):
    def test_the_tuples_are_told_again_as_they_were_handed_in(self):
        for rows in TABLES:
            told = TableTongue(entries(rows)).rows()
            self.assertEqual(told, rows)
            self.assertIs(type(told), list)
            for entry in told:
                self.assertEqual((type(entry), type(entry[1])), (tuple, list))

    def test_the_name_of_what_is_handed_in(self):
        self.assertEqual(TableTongue(rows=[(65, [1])]).rows(), [(65, [1])])


class Spelled(Case):
    def test_each_sign(self):
        for tongue, known in self.each():
            check_spelled(self, tongue, known, known.signs())

    def test_what_it_has_not_is_refused(self):
        for tongue, known in self.each():
            others = [sign for sign in all_signs()[:600:7] + all_signs()[600::90001] if sign not in known.signs()]
            for thing in not_signs() + others:
                check_no_sign(self, tongue.spell, thing, 0, thing)
                check_no_sign(self, tongue.spell, thing, 0, sign=thing, page=0)

    def test_things_that_are_like_one_of_its_signs(self):
        tongue = TableTongue([(0, [0]), (1, [1]), (65, [2])])
        for thing in (True, False, 65.0, 1.0, 0.0, 65 + 0j, "65", [65], (65, [2])):
            check_no_sign(self, tongue.spell, thing, 0, thing)

    def test_texts(self):
        tongue = TableTongue(entries(BRANCHED))
        self.assertEqual(write(tongue, []), [])
        self.assertEqual(write(tongue, [66, 65, 69, 66]), [2, 1, 1, 3, 1, 2, 3, 4, 5, 2, 1])
        check_no_sign(self, write, 64, 2, tongue, [66, 65, 64, 63])
        check_no_sign(self, write, None, 0, tongue, [None, 65])


class Looked(Case):
    def test_each_begun_row(self):
        for tongue, known in self.each():
            check_looked(self, tongue, known, with_a_byte(known.begun()) or ALL_BYTES)

    def test_written_out(self):
        tongue = TableTongue([(65, [1]), (66, [2, 3])])
        for row, told in (([1], ("sign", 65, 0)), ([2], ("more", None, 0)), ([3], ("none", None, 0)),
                          ([2, 3], ("sign", 66, 0)), ([2, 1], ("none", None, 0)), ([2, 2], ("none", None, 0))):
            self.assertEqual(tongue.look(row), told)

    def test_where_there_is_no_sign(self):
        for row in ALL_BYTES:
            self.assertEqual(TableTongue([]).look(list(row)), ("none", None, 0))

    def test_the_page_is_told_or_left_out(self):
        check_page_told_or_not(self, TableTongue(entries(BRANCHED)), 69, [[1], [2], [3], [4], [2, 1], [2, 2], [2, 3]])


class Filled(Case):
    def test_each_beginning_of_a_row(self):
        for tongue, known in self.each():
            check_filled(self, tongue, known, known.beginnings() | set(known.rows[0]))

    def test_each_byte_behind_a_beginning(self):
        for tongue, known in self.each():
            check_filled(self, tongue, known, with_a_byte(known.begun()) + ALL_BYTES + [[]])

    def test_rows_that_are_none_s(self):
        for tongue, known in self.each():
            check_filled(self, tongue, known, with_a_byte(known.rows[0]))
            for row in known.rows[0]:
                self.assertIsNone(tongue.fill(list(row) * 2))
                self.assertIsNone(tongue.fill(list(row) + [0] * 1900))

    def test_where_there_is_no_sign(self):
        for row in [[]] + ALL_BYTES:
            self.assertIsNone(TableTongue([]).fill(list(row)))


class Spots(Case):
    def test_spots(self):
        for tongue, known in self.each():
            check_spots(self, tongue, known)

    def test_no_sign_no_spot(self):
        self.assertEqual(TableTongue([]).spots(), [])


class Refused(unittest.TestCase):
    def check(self, one, other, rows):
        error = refusal(self, BadTable, TableTongue, rows)
        told = (error.one, error.other)
        self.assertTrue(same_thing(error.one, one) and same_thing(error.other, other), (told, one, other))

    def test_a_tuple_that_is_none_such(self):
        for thing in not_entries():
            self.check(0, 0, [thing])
            self.check(0, 0, [thing, thing])
            self.check(0, 0, [thing, (65, [1])])
            self.check(2, 2, [(70, [7]), (71, [8]), thing, (72, [9])])
            self.check(63, 63, entries(LONG[:63]) + [thing])

    def test_a_sign_twice(self):
        self.check(0, 1, [(65, [1]), (65, [2])])
        self.check(1, 3, [(65, [1]), (66, [2]), (67, [3]), (66, [4])])
        self.check(0, 63, entries(LONG[:63]) + [(1, [1])])
        self.check(62, 63, entries(LONG[:63]) + [(63, [1])])

    def test_a_row_that_is_alike_begins_or_is_begun(self):
        for one, other in (([1], [1]), ([1, 2], [1]), ([1], [1, 2]), ([1, 2, 3, 4, 5, 6], [1, 2, 3]), ([0], [0, 0, 0]),
                           ([1, 2, 3], [1, 2, 3, 4, 5, 6]), ([1, 2, 3, 4, 5, 6], [1, 2, 3, 4, 5, 6]), ([0, 0], [0])):
            self.check(0, 1, [(65, one), (66, other)])
            self.check(0, 2, [(65, one), (67, [9]), (66, other)])
            self.check(1, 2, [(67, [9]), (65, one), (66, other)])

    def test_rows_that_only_share_a_beginning_are_taken(self):
        rows = [(65, [1, 2, 3]), (66, [1, 2, 4]), (67, [1, 3]), (68, [2, 1, 2, 3]), (69, [0, 1])]
        self.assertEqual(TableTongue(entries(rows)).rows(), rows)

    def test_the_first_of_the_earlier_ones_is_told(self):
        self.check(0, 2, [(65, [1]), (66, [2]), (66, [1])])
        self.check(0, 2, [(65, [1]), (66, [2]), (65, [2])])
        self.check(0, 3, [(65, [1, 1]), (66, [1, 2]), (67, [1, 3]), (68, [1])])
        self.check(1, 3, [(65, [2, 1]), (66, [1, 2]), (67, [1, 3]), (68, [1])])
        self.check(1, 3, [(65, [2, 1]), (66, [1, 2]), (67, [3]), (66, [3])])

    def test_what_is_met_first_is_told(self):
        self.check(0, 1, [(65, [1]), (65, [2]), None])
        self.check(1, 1, [(65, [1]), None, (65, [2])])
        self.check(0, 1, [(65, [1]), (66, [1]), (67, [1])])
        self.check(0, 1, [(65, [1]), (66, [1]), (65, [3])])
        self.check(0, 0, [(65, []), (65, []), None])
        self.check(1, 2, [(65, [1]), (66, [2]), (67, [2, 3]), (65, [4])])

    def test_a_tuple_is_looked_at_by_itself_first(self):
        self.check(1, 1, [(65, [1]), (65, [])])
        self.check(1, 1, [(65, [1, 2]), (65, [1, 2, 3, 4, 5, 6, 7])])
        self.check(1, 1, [(65, [1]), (-1, [1])])
        self.check(1, 1, [(65, [1]), [65, [1]]])
        self.check(1, 1, [(1, [1]), (True, [2])])
        self.check(1, 1, [(65, [1]), (66, [True])])

    def test_more_than_64(self):
        for many in (65, 66, 100, 400):
            self.check(64, 64, [(1000 + place, [place // 200, place % 200]) for place in range(many)])
            self.check(64, 64, [None] * many)
            self.check(64, 64, [(65, [1])] * many)
            self.check(64, 64, entries(LONG) + [None] * (many - 64))

    def test_64_are_taken(self):
        self.assertEqual(len(TableTongue(entries(LONG)).rows()), 64)
        self.assertEqual(len(TableTongue(entries(MANY)).rows()), 64)

    def test_rows_of_one_to_six_bytes_are_taken(self):
        for size in range(1, 7):
            for byte in (0, 255):
                self.assertEqual(TableTongue([(65, [byte] * size)]).rows(), [(65, [byte] * size)])

    def test_a_refusal_leaves_the_list_as_it_was(self):
        for bad in ([(65, [1]), (65, [2])], [(65, [1]), (66, [1, 2])], [(65, [1]), None], [(65, [])]):
            handed = list(bad)
            refusal(self, BadTable, TableTongue, handed)
            self.assertEqual(handed, bad)


class LeftAlone(Case):
    def test_nothing_is_held_on_to(self):
        for tongue, known in self.each():
            rows = [list(row) for row in known.begun()] + [list(row) for row in known.rows[0]] + [[99], [2, 99]]
            check_left_alone(self, tongue, known.signs(), [row for row in rows if row], rows)
            check_told_anew(self, [tongue.rows])

    def test_the_list_handed_in_stays_as_it_was(self):
        for rows in TABLES:
            handed = entries(rows)
            tongue = TableTongue(handed)
            told = tongue.rows()
            for sign, row in told:
                row.append(7)
                tongue.spell(sign)[0].clear()
            told.clear()
            self.assertEqual(handed, rows)
            self.assertEqual(tongue.rows(), rows)

    def test_lists_changed_behind(self):
        handed = entries(BRANCHED)
        tongue = TableTongue(handed)
        for sign, row in handed:
            row[:] = [sign, 9]
        handed.reverse()
        handed.append(None)
        known = table_known(BRANCHED)
        self.assertEqual(tongue.rows(), BRANCHED)
        self.assertEqual(tongue.most(), 6)
        check_spelled(self, tongue, known, known.signs())
        check_looked(self, tongue, known, with_a_byte(known.begun()))
        check_filled(self, tongue, known, with_a_byte(known.begun()) + [[]])
        check_spots(self, tongue, known)

    def test_two_of_them_do_not_mix(self):
        one = TableTongue([(65, [1])])
        other = TableTongue([(66, [1]), (65, [2])])
        self.assertEqual((one.spell(65), other.spell(65), one.most()), (([1], 0), ([2], 0), 1))
        check_no_sign(self, one.spell, 66, 0, 66)


if __name__ == "__main__":
    unittest.main()
