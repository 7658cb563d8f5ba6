"""Numbers in parts [7], [2]."""

import unittest

from bytetongue.errors import TooGreat
from bytetongue.parts import parted, together
from tests.helper import refusal

ALL_BITS = range(1, 61)
SOME_BITS = (1, 2, 6, 7, 8, 10, 31, 32, 33, 59, 60)
SOME_MANY = (1, 2, 3, 4, 5, 8, 31, 63, 64)


def by_digits(number, bits, many):
    """The parts, cut from the number's written bits."""
    written = bin(number)[2:].zfill(bits * many)
    return [int(written[bits * place:bits * place + bits], 2) for place in range(many)]


def mixed_parts(bits, many):
    """Parts that differ from place to place, low ones, high ones and others."""
    room = 2 ** bits
    return [(place * place * 7919 + place * 31 + (room - 1) * (place % 2)) % room for place in range(many)]


class Parted(unittest.TestCase):
    def test_written_out(self):
        self.assertEqual(parted(0, 8, 1), [0])
        self.assertEqual(parted(255, 8, 1), [255])
        self.assertEqual(parted(258, 8, 2), [1, 2])
        self.assertEqual(parted(258, 8, 4), [0, 0, 1, 2])
        self.assertEqual(parted(65536 + 512 + 3, 8, 3), [1, 2, 3])
        self.assertEqual(parted(6, 1, 3), [1, 1, 0])
        self.assertEqual(parted(1, 1, 3), [0, 0, 1])
        self.assertEqual(parted(4 * 64 + 5, 6, 2), [4, 5])
        self.assertEqual(parted(2 ** 60, 60, 2), [1, 0])

    def test_the_greatest_that_has_room_and_the_least_that_has_not(self):
        for bits in ALL_BITS:
            for many in range(65):
                room = 2 ** (bits * many)
                self.assertEqual(parted(room - 1, bits, many), [2 ** bits - 1] * many)
                self.assertEqual(parted(0, bits, many), [0] * many)
                refusal(self, TooGreat, parted, room, bits, many)
                refusal(self, TooGreat, parted, -1, bits, many)

    def test_numbers_amid(self):
        for bits in SOME_BITS:
            for many in SOME_MANY:
                room = 2 ** (bits * many)
                for number in (1, room // 2, room // 2 - 1, room // 3, room // 7, room - 2):
                    if 0 <= number < room:
                        self.assertEqual(parted(number, bits, many), by_digits(number, bits, many))

    def test_far_too_great_and_far_below(self):
        for bits in SOME_BITS:
            for many in (0,) + SOME_MANY:
                for number in (2 ** (bits * many) * 2, 2 ** (bits * many + 64), 10 ** 5000, -2, -10 ** 60):
                    refusal(self, TooGreat, parted, number, bits, many)

    def test_no_parts(self):
        for bits in ALL_BITS:
            self.assertEqual(parted(0, bits, 0), [])
            for number in (1, 2, -1, 2 ** 60, -2 ** 60, 10 ** 60):
                refusal(self, TooGreat, parted, number, bits, 0)

    def test_somewhat_beyond_the_bounds_nothing_is_refused(self):
        self.assertEqual(parted(2 ** 61 + 5, 61, 2), [1, 5])
        self.assertEqual(parted(2 ** 70 - 1, 1, 70), [1] * 70)


class Together(unittest.TestCase):
    def test_written_out(self):
        self.assertEqual(together([255], 8), 255)
        self.assertEqual(together([1, 2], 8), 258)
        self.assertEqual(together([0, 0, 1, 2], 8), 258)
        self.assertEqual(together([1, 1, 0], 1), 6)
        self.assertEqual(together([4, 5], 6), 261)
        self.assertEqual(together([1, 0], 60), 2 ** 60)

    def test_no_parts(self):
        for bits in ALL_BITS:
            self.assertEqual(together([], bits), 0)

    def test_parts_of_every_shape_are_put_together_and_taken_apart(self):
        for bits in ALL_BITS:
            for many in range(65):
                parts = mixed_parts(bits, many)
                number = together(parts, bits)
                written = "".join([bin(part)[2:].zfill(bits) for part in parts])
                self.assertEqual(number, int("0" + written, 2))
                self.assertEqual(parted(number, bits, many), parts)

    def test_numbers_are_taken_apart_and_put_together(self):
        for bits in SOME_BITS:
            for many in SOME_MANY:
                room = 2 ** (bits * many)
                for number in (0, 1, room // 3, room // 5, room - 1):
                    if number < room:
                        self.assertEqual(together(parted(number, bits, many), bits), number)

    def test_a_bad_part_at_any_place(self):
        for bits in SOME_BITS:
            for many in SOME_MANY:
                for place in range(many):
                    for bad in (-1, -2 ** bits, 2 ** bits, 2 ** bits + 1, 2 ** (bits + 1), 10 ** 60):
                        parts = mixed_parts(bits, many)
                        parts[place] = bad
                        refusal(self, TooGreat, together, parts, bits)

    def test_a_bad_part_among_parts_that_are_0(self):
        for bits in ALL_BITS:
            for place in range(3):
                parts = [0, 0, 0]
                parts[place] = 2 ** bits
                refusal(self, TooGreat, together, parts, bits)
                parts[place] = -1
                refusal(self, TooGreat, together, parts, bits)
                parts[place] = 2 ** bits - 1
                self.assertEqual(together(parts, bits), (2 ** bits - 1) * 2 ** (bits * (2 - place)))

    def test_somewhat_beyond_the_bounds_nothing_is_refused(self):
        self.assertEqual(together([1, 5], 61), 2 ** 61 + 5)
        self.assertEqual(together([1] * 70, 1), 2 ** 70 - 1)


class LeftAlone(unittest.TestCase):
    def test_what_is_handed_in_stays_as_it_was(self):
        for parts in ([], [1, 2, 3], [0, 255], [255, 256, 0], [1, -1]):
            handed = list(parts)
            try:
                together(handed, 8)
            except TooGreat:
                pass
            self.assertEqual(handed, parts)

    def test_what_is_told_may_be_changed(self):
        for number, bits, many in ((258, 8, 2), (0, 8, 3), (0, 5, 0), (2 ** 60 - 1, 60, 1)):
            told = parted(number, bits, many)
            self.assertIs(type(told), list)
            kept = list(told)
            told.append(99)
            told[0] = -5
            self.assertEqual(parted(number, bits, many), kept)

    def test_a_refusal_leaves_nothing_behind(self):
        before = (parted(77, 4, 3), together([1, 2, 3], 4))
        refusal(self, TooGreat, parted, 4096, 4, 3)
        refusal(self, TooGreat, together, [1, 16, 3], 4)
        self.assertEqual((parted(77, 4, 3), together([1, 2, 3], 4)), before)

    def test_the_names_of_what_is_handed_in(self):
        self.assertEqual(parted(number=258, bits=8, many=2), [1, 2])
        self.assertEqual(together(parts=[1, 2], bits=8), 258)


if __name__ == "__main__":
    unittest.main()
