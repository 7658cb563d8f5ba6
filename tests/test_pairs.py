"""The pair tongues [8], [9], [10], [12], [2]."""

import unittest

from bytetongue.errors import NoOrder
from bytetongue.pairs import PairTongue
from tests.helper import (HIGH, LOW, check_filled, check_left_alone, check_looked, check_no_sign,
                          check_page_told_or_not, check_spelled, check_spots, many_signs, not_orders, not_signs,
                          refusal)

ORDERS = (("high", HIGH), ("low", LOW))

# Signs and the numbers of their units.
WRITTEN = (
    (0, [0]), (65, [65]), (255, [255]), (256, [256]), (8364, [8364]), (55295, [55295]), (57344, [57344]),
    (61183, [61183]), (61440, [61440]), (65279, [65279]), (65534, [65534]), (65535, [65535]),
    (65536, [55296, 56320]), (65537, [55296, 56321]), (66559, [55296, 57343]), (66560, [55297, 56320]),
    (128512, [55357, 56832]), (1113088, [56319, 56320]), (1114110, [56319, 57342]), (1114111, [56319, 57343]),
)
HEADS = (55296, 55297, 55807, 55808, 56000, 56318, 56319)


def as_row(order, units):
    """The row of these units, heads and tails and seen bytes' numbers too."""
    return [byte for unit in units for byte in unit.to_bytes(2, "big" if order == "high" else "little")]


class Orders(unittest.TestCase):
    def test_the_two_words(self):
        self.assertEqual(PairTongue("high").spell(258), ([1, 2], 0))
        self.assertEqual(PairTongue("low").spell(258), ([2, 1], 0))
        self.assertEqual(PairTongue(order="low").spell(258), ([2, 1], 0))

    def test_high_where_none_is_told(self):
        self.assertEqual(PairTongue().spell(258), ([1, 2], 0))

    def test_words_made_at_run_time(self):
        self.assertEqual(PairTongue("".join(["hi", "gh"])).spell(258), ([1, 2], 0))
        self.assertEqual(PairTongue("".join(["l", "ow"])).spell(258), ([2, 1], 0))

    def test_any_other_is_refused(self):
        for thing in not_orders():
            refusal(self, NoOrder, PairTongue, thing)
            refusal(self, NoOrder, PairTongue, order=thing)

    def test_a_refusal_leaves_nothing_behind(self):
        low = PairTongue("low")
        refusal(self, NoOrder, PairTongue, "middle")
        self.assertEqual((low.spell(258), PairTongue().spell(258)), (([2, 1], 0), ([1, 2], 0)))


class Numbers(unittest.TestCase):
    def test_their_numbers(self):
        for order, known in ORDERS:
            tongue = PairTongue(order)
            self.assertEqual((tongue.pages(), tongue.unit(), tongue.most()), (1, 2, 4))


class Spelled(unittest.TestCase):
    def test_written_out(self):
        for order, known in ORDERS:
            for sign, units in WRITTEN:
                self.assertEqual(PairTongue(order).spell(sign), (as_row(order, units), 0))

    def test_signs_of_one_unit_and_of_two(self):
        for order, known in ORDERS:
            check_spelled(self, PairTongue(order), known, many_signs())

    def test_what_is_no_sign_is_refused(self):
        for order, known in ORDERS:
            for thing in not_signs():
                check_no_sign(self, PairTongue(order).spell, thing, 0, thing)
                check_no_sign(self, PairTongue(order).spell, thing, 0, sign=thing, page=0)


class Looked(unittest.TestCase):
    def test_written_out(self):
        for order, known in ORDERS:
            tongue = PairTongue(order)
            for sign, units in WRITTEN:
                row = as_row(order, units)
                self.assertEqual(tongue.look(row), ("sign", sign, 0))
                if len(units) == 2:
                    self.assertEqual(tongue.look(row[:2]), ("more", None, 0))

    def test_every_unit_by_itself(self):
        for order, known in ORDERS:
            tongue = PairTongue(order)
            for unit in range(65536):
                if 55296 <= unit <= 56319:
                    expected = ("more", None, 0)
                elif unit <= 57343 and unit >= 56320 or 61184 <= unit <= 61439:
                    expected = ("none", None, 0)
                else:
                    expected = ("sign", unit, 0)
                if tongue.look(as_row(order, [unit])) != expected:
                    self.fail((order, unit))

    def test_units_behind_a_head(self):
        units = list(range(55000, 57700)) + list(range(61150, 61480)) + list(range(0, 65536, 97)) + [65535]
        for order, known in ORDERS:
            rows = [as_row(order, [head, unit]) for head in HEADS for unit in units]
            check_looked(self, PairTongue(order), known, rows)

    def test_every_head(self):
        for order, known in ORDERS:
            tails = (56320, 56321, 57000, 57343)
            rows = [as_row(order, [head, unit]) for head in range(55296, 56320) for unit in tails + (56319, 57344, 65)]
            check_looked(self, PairTongue(order), known, rows)

    def test_the_page_is_told_or_left_out(self):
        for order, known in ORDERS:
            rows = [as_row(order, units) for units in ([65], [55296], [55296, 56320], [55296, 65], [56320], [61184])]
            check_page_told_or_not(self, PairTongue(order), 65, rows)


class Filled(unittest.TestCase):
    def test_rows_of_no_byte_and_of_one(self):
        for order, known in ORDERS:
            check_filled(self, PairTongue(order), known, [[]] + [[byte] for byte in range(256)])

    def test_an_odd_byte_that_begins_no_sign(self):
        high = PairTongue("high")
        for byte in range(256):
            self.assertIs(high.fill([byte]) is None, byte in (220, 221, 222, 223, 239))
            self.assertIsNotNone(PairTongue("low").fill([byte]))

    def test_rows_of_two_bytes(self):
        for order, known in ORDERS:
            rows = [[one, other] for one in range(256) for other in range(256)]
            check_filled(self, PairTongue(order), known, rows)

    def test_rows_of_three_bytes(self):
        others = (0, 65, 56320, 57343, 61184, 55295)
        for order, known in ORDERS:
            rows = [as_row(order, [unit]) + [byte] for unit in HEADS + others for byte in range(256)]
            check_filled(self, PairTongue(order), known, rows)

    def test_rows_of_four_bytes(self):
        units = (0, 65, 55295, 55296, 56319, 56320, 56321, 57000, 57343, 57344, 61184, 61439, 65535)
        for order, known in ORDERS:
            rows = [as_row(order, [one, other]) for one in units + HEADS for other in units]
            check_filled(self, PairTongue(order), known, rows)

    def test_rows_that_go_on_behind_a_sign(self):
        for order, known in ORDERS:
            rows = [as_row(order, units) for sign, units in WRITTEN]
            longer = [row + [byte] for row in rows for byte in (0, 65, 216, 220, 255)]
            longer += [row + other for row in rows for other in rows] + [[0, 65] * 1000, [0] * 5, [65] * 1999]
            check_filled(self, PairTongue(order), known, longer)

    def test_whole_rows_want_nothing(self):
        for order, known in ORDERS:
            for sign, units in WRITTEN:
                self.assertEqual(PairTongue(order).fill(as_row(order, units)), [])


class Spots(unittest.TestCase):
    def test_spots(self):
        for order, known in ORDERS:
            check_spots(self, PairTongue(order), known)


class LeftAlone(unittest.TestCase):
    def test_nothing_is_held_on_to(self):
        for order, known in ORDERS:
            whole = [as_row(order, units) for sign, units in WRITTEN]
            begun = [row[:size] for row in whole for size in range(2, len(row) + 1, 2)]
            rows = [row[:size] for row in whole for size in range(len(row) + 1)] + [[220], [216, 0, 65]]
            check_left_alone(self, PairTongue(order), [sign for sign, units in WRITTEN], begun, rows)

    def test_the_one_does_not_turn_the_other(self):
        high = PairTongue("high")
        low = PairTongue("low")
        for sign, units in WRITTEN:
            self.assertEqual(high.spell(sign), (as_row("high", units), 0))
            self.assertEqual(low.spell(sign), (as_row("low", units), 0))


if __name__ == "__main__":
    unittest.main()
