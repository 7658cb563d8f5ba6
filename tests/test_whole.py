"""The whole promise, as far as writing and reading go [4]."""

import itertools
import unittest

from bytetongue.errors import Faulty
from bytetongue.lead import LeadTongue
from bytetongue.pairs import PairTongue
from bytetongue.readers import Reader
from bytetongue.reading import read, rest_of
from bytetongue.writers import Writer
from bytetongue.writing import write
from tests.helper import Listed, few_ways_to_cut, is_sign_number, many_signs, samples

WIDE = (0, 127, 128, 2047, 2048, 55295, 57344, 61183, 61440, 65279, 65535, 65536, 1114111)


def signs_of(sample):
    """Some signs of a sample's tongue, or all."""
    return sample.known.signs() if isinstance(sample.known, Listed) else list(WIDE)


def texts_of(sample):
    """All texts of some signs, up to three or five of them."""
    signs = signs_of(sample)
    size = 5 if len(signs) < 4 else 3
    return [list(text) for many in range(size + 1) for text in itertools.product(signs, repeat=many)]


def read_or_none(tongue, row):
    try:
        return read(tongue, row)
    except Faulty:
        return None


class ThereAndBack(unittest.TestCase):
    def test_a_text_is_written_and_read_again_as_the_same_text(self):
        for sample in samples():
            for text in texts_of(sample):
                self.assertEqual(read(sample.tongue, write(sample.tongue, text)), text)

    def test_no_two_texts_are_written_alike(self):
        for sample in samples():
            texts = texts_of(sample)
            self.assertEqual(len({tuple(write(sample.tongue, text)) for text in texts}), len(texts))

    def test_every_sign(self):
        for tongue in (LeadTongue(), PairTongue(), PairTongue("low")):
            for sign in many_signs()[::3]:
                self.assertEqual(read(tongue, write(tongue, [65, sign])), [65, sign])

    def test_a_row_that_is_read_is_that_text_s(self):
        for sample in samples():
            for row in sample.rows():
                text = read_or_none(sample.tongue, row)
                if text is not None:
                    self.assertEqual(write(sample.tongue, text), row)

    def test_a_row_is_read_just_where_some_text_is_written_so(self):
        for sample in samples():
            for row in sample.rows():
                self.assertIs(read_or_none(sample.tongue, row) is None, bytes(row) not in sample.texts(), row)

    def test_every_row_of_two_bytes(self):
        for tongue, codec in ((LeadTongue(), "utf-8"), (PairTongue(), "utf-16-be"), (PairTongue("low"), "utf-16-le")):
            for row in itertools.product(range(256), repeat=2):
                try:
                    text = [ord(letter) for letter in bytes(row).decode(codec)]
                except UnicodeDecodeError:
                    text = [-1]
                if read_or_none(tongue, list(row)) != (text if all(map(is_sign_number, text)) else None):
                    self.fail(row)


class FirstFault(unittest.TestCase):
    def test_ahead_of_the_fault_is_a_beginning_with_its_unit_is_none(self):
        for sample in samples():
            for row in sample.rows():
                reader = Reader(sample.tongue)
                reader.feed(row)
                if reader.over():
                    self.assertTrue(sample.goes_on(row[:reader.taken() - sample.known.unit]), row)
                    self.assertFalse(sample.goes_on(row[:reader.taken()]), row)
                else:
                    whole = len(row) - len(row) % sample.known.unit
                    self.assertTrue(sample.goes_on(row[:whole]), row)
                    self.assertIs(reader.held() == 0, bytes(row) in sample.texts(), row)

    def test_what_goes_on_is_told_a_rest(self):
        for sample in samples():
            for row in sample.rows():
                self.assertIs(rest_of(sample.tongue, row) is not None, sample.goes_on(row), row)


class Pieces(unittest.TestCase):
    def test_texts_written_and_read_in_pieces(self):
        for sample in samples():
            for text in texts_of(sample)[::7]:
                for pieces in few_ways_to_cut(text):
                    writer = Writer(sample.tongue)
                    reader = Reader(sample.tongue)
                    for piece in pieces:
                        self.assertEqual(reader.feed(writer.feed(piece)), piece)
                        self.assertEqual((reader.page(), reader.held()), (writer.page(), 0))
                    self.assertEqual((reader.end(), reader.faults()), ([], []))


if __name__ == "__main__":
    unittest.main()
