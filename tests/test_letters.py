"""Rows in letters, there and back [16], [17], [2]."""

import base64
import itertools
import unittest

from bytetongue.errors import BadLetters
from bytetongue.letters import lettered, unlettered
from bytetongue.orders import ahead
from tests.helper import check_told_anew, refusal, same_thing

LETTERS = b"-0123456789ABCDEFGHIJKLMNOPQRSTUVWXYZ_abcdefghijklmnopqrstuvwxyz"
# Python's own writing of six bits each has the same numbers with other letters, and puts "=" behind.
OTHERS = b"ABCDEFGHIJKLMNOPQRSTUVWXYZabcdefghijklmnopqrstuvwxyz0123456789+/"
NO_LETTERS = [byte for byte in range(256) if byte not in LETTERS]
SOME_BYTES = (0, 1, 3, 4, 15, 16, 63, 64, 127, 128, 192, 240, 252, 254, 255)


def known_letters(row):
    return list(base64.b64encode(bytes(row)).rstrip(b"=").translate(bytes.maketrans(OTHERS, LETTERS)))


def rows():
    """Rows of 0 to 7 bytes, and longer ones."""
    found = [[]] + [[byte] for byte in range(256)]
    found += [list(row) for size in (2, 3) for row in itertools.product(SOME_BYTES, repeat=size)]
    for size in range(4, 8):
        found += [[byte] * size for byte in SOME_BYTES]
        found += [list(range(250, 250 - size * 37, -37)), [255] + [0] * (size - 1)]
        found += [[0] * (size - 1) + [byte] for byte in SOME_BYTES]
    for size in (8, 9, 10, 255, 256, 257, 1499, 1998, 1999, 2000):
        found += [[(place * place + 7 * place) % 256 for place in range(size)], [255] * size, [0] * size]
    return found


class Lettered(unittest.TestCase):
    def test_written_out(self):
        for row, letters in (([], b""), ([0], b"--"), ([255], b"zk"), ([0, 0], b"---"), ([0, 0, 0], b"----"),
                             ([255, 255, 255], b"zzzz"), ([0, 16, 131], b"-012"), ([1], b"-F"), ([4], b"0-"),
                             ([255, 255], b"zzw"), ([0, 1, 2, 3], b"--31-k")):
            self.assertEqual(lettered(row), list(letters), row)

    def test_each_letter_by_its_number(self):
        for number in range(64):
            self.assertEqual(lettered([number * 4]), [LETTERS[number], 45])
            self.assertEqual(lettered([number]), [LETTERS[number // 4], LETTERS[number % 4 * 16]])
            self.assertEqual(lettered([0, 0, number]), [45, 45, 45, LETTERS[number]])

    def test_rows_short_and_long(self):
        for row in rows():
            told = lettered(row)
            self.assertIs(type(told), list)
            self.assertEqual(told, known_letters(row))

    def test_every_row_of_two_bytes(self):
        for row in itertools.product(range(256), repeat=2):
            if lettered(list(row)) != known_letters(row):
                self.fail(row)

    def test_how_many_letters(self):
        for size in range(20):
            self.assertEqual(len(lettered([200] * size)), size // 3 * 4 + (0, 2, 3)[size % 3])

    def test_rows_and_their_letters_stand_in_the_same_order(self):
        some = [list(row) for size in range(4) for row in itertools.product((0, 1, 4, 127, 128, 255), repeat=size)]
        some += [row + [0] for row in some if len(row) == 3] + [row for row in rows() if 3 < len(row) < 9][::5]
        written = [lettered(row) for row in some]
        for one, its in zip(some[::3], written[::3]):
            for other, others in zip(some, written):
                if ahead(one, other) != ahead(its, others):
                    self.fail((one, other))

    def test_beginnings_of_a_row_are_ahead_or_alike(self):
        for row in rows():
            if len(row) < 12:
                for size in range(len(row) + 1):
                    self.assertEqual(ahead(lettered(row[:size]), lettered(row)), -1 if size < len(row) else 0)

    def test_the_names_of_what_is_handed_in(self):
        self.assertEqual(lettered(row=[255]), [122, 107])
        self.assertEqual(unlettered(row=[122, 107]), [255])


class Unlettered(unittest.TestCase):
    def test_there_and_back(self):
        for row in rows():
            told = unlettered(known_letters(row))
            self.assertIs(type(told), list)
            self.assertEqual(told, row)

    def test_every_row_of_letters_to_three(self):
        """Each is read, or refused just where no row is written so."""
        written = {tuple(known_letters(row)): list(row) for size in range(3)
                   for row in itertools.product(range(256), repeat=size)}
        for size in range(3):
            for letters in itertools.product(LETTERS, repeat=size):
                self.check(letters, written)
        for letters in itertools.product(LETTERS[::9] + b"zk", LETTERS[1::9], LETTERS):
            self.check(letters, written)

    def check(self, letters, written):
        if letters in written:
            self.assertEqual(unlettered(list(letters)), written[letters])
        else:
            self.refused(list(letters), len(letters))

    def refused(self, letters, at):
        error = refusal(self, BadLetters, unlettered, letters)
        self.assertTrue(same_thing(error.at, at), (letters[:20], error.at, at))

    def test_a_byte_that_is_no_letter(self):
        for byte in NO_LETTERS:
            for letters in (b"", b"-", b"--", b"---", b"----", b"AbCd_5", b"zzzzzzzzzzzzz"):
                for place in range(len(letters) + 1):
                    self.refused(list(letters[:place]) + [byte] + list(letters[place:]), place)

    def test_the_first_of_several(self):
        self.refused([45, 46, 47, 45], 1)
        self.refused([0, 255], 0)
        self.refused([45] * 1998 + [61, 61], 1998)

    def test_a_byte_that_is_no_letter_ahead_of_a_bad_end(self):
        self.refused([61, 45, 45, 45, 45], 0)
        self.refused([45, 48, 61], 2)
        self.refused([45, 61, 45, 45, 48], 1)
        self.refused([45, 45, 45, 45, 61], 4)

    def test_a_rest_of_one_letter(self):
        for letter in LETTERS:
            self.refused([letter], 1)
            for many in (4, 8, 40, 1996):
                self.refused([45] * many + [letter], many + 1)
                self.refused([122] * many + [letter], many + 1)

    def test_bits_at_the_end_that_are_not_0(self):
        for ahead_of_it in ([], [45] * 4, [122] * 8, [45] * 1992):
            for number, letter in enumerate(LETTERS):
                for letters, bits in (([122, letter], 16), ([45, letter], 16), ([122, 122, letter], 4),
                                      ([45, 45, letter], 4)):
                    if number % bits:
                        self.refused(ahead_of_it + letters, len(ahead_of_it + letters))
                    else:
                        self.assertEqual(lettered(unlettered(ahead_of_it + letters)), ahead_of_it + letters)

    def test_whole_groups_have_no_such_bits(self):
        for letter in LETTERS:
            self.assertEqual(lettered(unlettered([45, 122, 45, letter])), [45, 122, 45, letter])


class LeftAlone(unittest.TestCase):
    def test_what_is_handed_in_stays_as_it_was(self):
        for row in rows():
            handed = list(row)
            lettered(handed)
            self.assertEqual(handed, row)
            letters = known_letters(row)
            handed = list(letters)
            unlettered(handed)
            self.assertEqual(handed, letters)
        for letters in ([45], [45, 46], [122, 122], [61]):
            handed = list(letters)
            refusal(self, BadLetters, unlettered, handed)
            self.assertEqual(handed, letters)

    def test_what_is_told_may_be_changed(self):
        for row in ([], [1], [1, 2], [1, 2, 3], [1, 2, 3, 4]):
            letters = known_letters(row)
            check_told_anew(self, [lambda: lettered(row), lambda: unlettered(letters)])
            self.assertEqual(letters, known_letters(row))


if __name__ == "__main__":
    unittest.main()
