"""Letters written and read in pieces [18], [2]."""

import unittest

from bytetongue.letterpieces import LetterReader, LetterWriter
from bytetongue.letters import lettered, unlettered
from tests.helper import few_ways_to_cut, same_thing, spoil, ways_to_cut

LETTERS = b"-0123456789ABCDEFGHIJKLMNOPQRSTUVWXYZ_abcdefghijklmnopqrstuvwxyz"
NO_LETTERS = (0, 44, 46, 47, 58, 61, 64, 91, 94, 96, 123, 128, 255)
ROWS = ([], [0], [255], [1, 2], [255, 255], [0, 0, 0], [255, 254, 253], [1, 2, 3, 4], [9, 8, 7, 6, 5],
        [0, 0, 0, 0, 0, 1], [200, 100, 50, 25, 12, 6, 3], [255] * 8)
GOOD = [b"", b"--", b"zk", b"---", b"zzw", b"----", b"-012", b"zzzz--", b"AbCdEfF", b"AbCdEfGh", b"_-_-_-_-"]
# A rest of one letter, and bits at the end that are not 0.
BAD_ENDS = [b"-", b"z", b"-----", b"zzzz0", b"AbCdEfGh-", b"-0", b"zz", b"--0", b"zzz", b"-0120z",
            b"-012zz0", b"zzzz--2"]


def bits_of(things, size):
    """Bits as a text of 0 and 1, so that nothing is shifted as the program shifts it."""
    return "".join([format(thing, "b").zfill(size) for thing in things])


def whole_groups(bits, size):
    return [int(bits[first:first + size], 2) for first in range(0, len(bits) - size + 1, size)]


def sure_letters(row):
    """The letters whose six bits are all in the row."""
    return [LETTERS[number] for number in whole_groups(bits_of(row, 8), 6)]


def sure_bytes(letters):
    """The bytes whose eight bits are all in the letters."""
    return whole_groups(bits_of([LETTERS.index(letter) for letter in letters], 6), 8)


def bad_at_end(letters):
    """How many letters there are, where no row is written so; else None."""
    left = bits_of([LETTERS.index(letter) for letter in letters], 6)[len(sure_bytes(letters)) * 8:]
    return len(letters) if len(left) == 6 or "1" in left else None


class Case(unittest.TestCase):
    def check_told(self, told, expected, about):
        self.assertIs(type(told), list)
        if told != expected:
            self.fail((about, told, expected))

    def check_over(self, pieces):
        """What is over tells nothing, and stays as it is."""
        bad = pieces.bad() if isinstance(pieces, LetterReader) else None
        for row in ([], [45], [45] * 9, [0], [255, 45], b"AbC", None):
            self.assertEqual(pieces.feed(row), [])
            self.assertIs(pieces.over(), True)
            self.assertEqual(pieces.end(), [])
            self.assertIs(pieces.over(), True)
            if isinstance(pieces, LetterReader):
                self.assertTrue(same_thing(pieces.bad(), bad))


class Writers(Case):
    def check_cut(self, row, ways):
        for pieces in ways:
            writer = LetterWriter()
            self.assertIs(writer.over(), False)
            size = 0
            told = []
            for piece in pieces:
                ahead = len(sure_letters(row[:size]))
                size += len(piece)
                told.append(writer.feed(list(piece)))
                self.check_told(told[-1], sure_letters(row[:size])[ahead:], (row, pieces))
                self.assertIs(writer.over(), False)
            told.append(writer.end())
            self.assertIs(type(told[-1]), list)
            self.assertEqual(len(told[-1]), 1 if len(row) % 3 else 0)
            self.assertIs(writer.over(), True)
            self.assertEqual([letter for each in told for letter in each], lettered(row))
            self.check_over(writer)

    def test_rows_cut_in_every_way(self):
        for row in ROWS:
            self.check_cut(row, ways_to_cut(row))

    def test_long_rows(self):
        for size in (100, 101, 102, 2000):
            row = [(place * place + 7 * place) % 256 for place in range(size)]
            self.check_cut(row, [[row], [row[:1], row[1:50], row[50:]], [row[:50], row[50:52], [], row[52:]]])
        self.check_cut([201] * 50, few_ways_to_cut([201] * 50))

    def test_20_000_bytes(self):
        writer = LetterWriter()
        row = list(range(250)) * 8
        letters = []
        for piece in range(10):
            letters += writer.feed(row)
        self.assertEqual(letters + writer.end(), lettered(row * 10))

    def test_every_byte(self):
        for byte in range(256):
            self.check_cut([byte], [[[byte]]])
            self.check_cut([byte, 255 - byte, byte], ways_to_cut([byte, 255 - byte, byte]))

    def test_written_out(self):
        writer = LetterWriter()
        self.assertEqual(writer.feed([255]), [122])
        self.assertEqual(writer.feed([]), [])
        self.assertEqual(writer.feed([0]), [107])
        self.assertEqual(writer.feed([0]), [45, 45])
        self.assertEqual(writer.feed([255]), [122])
        self.assertEqual(writer.end(), [107])
        self.assertEqual(writer.end(), [])

    def test_the_end_at_once(self):
        writer = LetterWriter()
        self.assertEqual((writer.end(), writer.over()), ([], True))
        self.check_over(writer)


class Readers(Case):
    def check_cut(self, letters, ways):
        """Letters, and perhaps behind them a byte that is none."""
        good = [place for place, letter in enumerate(letters) if letter not in LETTERS]
        many = min(good + [len(letters)])
        for pieces in ways:
            reader = LetterReader()
            self.assertIs(reader.over(), False)
            self.assertIsNone(reader.bad())
            size = 0
            for piece in pieces:
                ahead = len(sure_bytes(letters[:min(size, many)]))
                size += len(piece)
                expected = sure_bytes(letters[:min(size, many)])[ahead:]
                self.check_told(reader.feed(list(piece)), expected, (letters, pieces))
                self.assertIs(reader.over(), size > many)
                self.assertTrue(same_thing(reader.bad(), many if size > many else None), (letters, pieces))
            self.check_told(reader.end(), [], (letters, pieces))
            self.assertIs(reader.over(), True)
            bad = many if good else bad_at_end(letters)
            self.assertTrue(same_thing(reader.bad(), bad), (letters, pieces, reader.bad(), bad))
            self.check_over(reader)

    def test_letters_cut_in_every_way(self):
        for letters in GOOD:
            self.assertEqual(unlettered(list(letters)), sure_bytes(letters))
            self.assertIsNone(bad_at_end(letters))
            self.check_cut(list(letters), ways_to_cut(list(letters)))
        for row in ROWS:
            self.check_cut(lettered(row), ways_to_cut(lettered(row))[:300])

    def test_bad_ends_cut_in_every_way(self):
        for letters in BAD_ENDS:
            self.assertEqual(bad_at_end(letters), len(letters), letters)
            self.check_cut(list(letters), ways_to_cut(list(letters)))

    def test_a_byte_that_is_no_letter_at_any_place(self):
        for number, letters in enumerate(GOOD + BAD_ENDS):
            if len(letters) < 8:
                for place in range(len(letters) + 1):
                    byte = NO_LETTERS[(number + place) % len(NO_LETTERS)]
                    spoiled = list(letters[:place]) + [byte] + list(letters[place:])
                    self.check_cut(spoiled, ways_to_cut(spoiled))

    def test_every_byte_that_is_no_letter(self):
        for byte in range(256):
            if byte not in LETTERS:
                for place in range(6):
                    letters = list(LETTERS[place:place * 2]) + [byte] + list(LETTERS[20:22])
                    self.check_cut(letters, few_ways_to_cut(letters))

    def test_several_bytes_that_are_no_letters(self):
        for letters in ([0, 0], [45, 0, 255], [45, 45, 0, 45, 0], [122, 122, 122, 61, 61]):
            self.check_cut(letters, ways_to_cut(letters))

    def test_every_letter(self):
        for letter in LETTERS:
            for letters in ([letter], [letter, 45], [45, letter], [122, letter, 45], [45, 45, letter],
                            [45, 45, 45, letter]):
                self.check_cut(letters, ways_to_cut(letters))

    def test_long_letters(self):
        letters = [LETTERS[(place * place + 7 * place) % 64] for place in range(2000)]
        for size in (1996, 1997, 1998, 1999, 2000):
            cut = letters[:size]
            self.check_cut(cut, [[cut], [cut[:1], cut[1:50], cut[50:]], [cut[:51], [], cut[51:53], cut[53:]]])

    def test_20_000_letters(self):
        reader = LetterReader()
        letters = lettered(list(range(250)) * 6)
        row = []
        for piece in range(10):
            row += reader.feed(letters)
        self.assertEqual((row, reader.bad()), (list(range(250)) * 60, None))
        self.assertEqual((reader.feed([45, 48, 61]), reader.bad()), ([0], 20002))

    def test_written_out(self):
        reader = LetterReader()
        self.assertEqual(reader.feed([122]), [])
        self.assertEqual(reader.feed([]), [])
        self.assertEqual(reader.feed([107, 45]), [255, 0])
        self.assertEqual(reader.feed([45, 45, 48, 61, 45]), [0, 0])
        self.assertEqual((reader.bad(), reader.over()), (6, True))
        self.assertEqual((reader.end(), reader.bad(), reader.over()), ([], 6, True))

    def test_the_end_at_once(self):
        reader = LetterReader()
        self.assertEqual((reader.end(), reader.over(), reader.bad()), ([], True, None))
        self.check_over(reader)

    def test_the_names_of_what_is_handed_in(self):
        self.assertEqual(LetterReader().feed(row=[122, 107]), [255])
        self.assertEqual(LetterWriter().feed(row=[255]), [122])


class LeftAlone(Case):
    def test_what_is_handed_in_stays_as_it_was_and_is_not_held_on_to(self):
        for row in ROWS:
            letters = lettered(row)
            for make, things, goal in ((LetterWriter, row, letters), (LetterReader, letters, row)):
                for pieces in few_ways_to_cut(things):
                    fed = make()
                    told = []
                    for piece in pieces:
                        handed = list(piece)
                        told += fed.feed(handed)
                        self.assertEqual(handed, piece)
                        handed[:] = [77] * 5
                    self.assertEqual(told + fed.end(), goal)

    def test_what_is_told_may_be_changed(self):
        for row in ROWS:
            letters = lettered(row)
            for make, things, goal in ((LetterWriter, row, letters), (LetterReader, letters, row)):
                fed = make()
                told = []
                for thing in things:
                    piece = fed.feed([thing])
                    told += piece
                    spoil(piece)
                last = fed.end()
                told += last
                spoil(last)
                self.assertEqual((told, fed.end(), fed.feed([45])), (goal, [], []))

    def test_two_of_them_do_not_mix(self):
        one = LetterWriter()
        other = LetterWriter()
        self.assertEqual((one.feed([255]), other.feed([0]), one.end(), other.end()), ([122], [45], [107], [45]))
        one = LetterReader()
        other = LetterReader()
        self.assertEqual((one.feed([122]), other.feed([45]), one.feed([107]), other.feed([45])), ([], [], [255], [0]))


if __name__ == "__main__":
    unittest.main()
