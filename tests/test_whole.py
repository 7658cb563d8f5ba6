"""The whole promise [4]."""

import itertools
import unittest

from bytetongue.amid import in_step
from bytetongue.errors import Faulty
from bytetongue.going import GoingReader, parts_of
from bytetongue.guessing import Guesser
from bytetongue.keeping import disorder
from bytetongue.lead import LeadTongue
from bytetongue.letterpieces import LetterReader, LetterWriter
from bytetongue.pairs import PairTongue
from bytetongue.readers import Reader
from bytetongue.reading import read, rest_of
from bytetongue.seeing import SeenWriter, write_seen
from bytetongue.turning import Turner
from bytetongue.ways import Leave, Put, See
from bytetongue.writers import Writer
from bytetongue.writing import write
from tests.helper import Listed, few_ways_to_cut, is_sign_number, many_signs, samples

WIDE = (0, 127, 128, 2047, 2048, 55295, 57344, 61183, 61440, 65279, 65535, 65536, 1114111)


def signs_of(sample):
    """Some signs of a sample's tongue, or all."""
    return sample.known.signs() if isinstance(sample.known, Listed) else list(WIDE)


def texts_of(sample):
    """All texts of some signs, up to three or five of them."""
    signs = signs_of(sample)
    size = 5 if len(signs) < 4 else 3
    return [list(text) for many in range(size + 1) for text in itertools.product(signs, repeat=many)]


def read_or_none(tongue, row):
    try:
        return read(tongue, row)
    except Faulty:
        return None


class ThereAndBack(unittest.TestCase):
    def test_a_text_is_written_and_read_again_as_the_same_text(self):
        for sample in samples():
            for text in texts_of(sample):
                self.assertEqual(read(sample.tongue, write(sample.tongue, text)), text)

    def test_no_two_texts_are_written_alike(self):
        for sample in samples():
            texts = texts_of(sample)
            self.assertEqual(len({tuple(write(sample.tongue, text)) for text in texts}), len(texts))

    def test_every_sign(self):
        for tongue in (LeadTongue(), PairTongue(), PairTongue("low")):
            for sign in many_signs()[::3]:
                self.assertEqual(read(tongue, write(tongue, [65, sign])), [65, sign])

    def test_a_row_that_is_read_is_that_text_s(self):
        for sample in samples():
            for row in sample.rows():
                text = read_or_none(sample.tongue, row)
                if text is not None:
                    self.assertEqual(write(sample.tongue, text), row)

    def test_a_row_is_read_just_where_some_text_is_written_so(self):
        for sample in samples():
            for row in sample.rows():
                self.assertIs(read_or_none(sample.tongue, row) is None, bytes(row) not in sample.texts(), row)

    def test_every_row_of_two_bytes(self):
        for tongue, codec in ((LeadTongue(), "utf-8"), (PairTongue(), "utf-16-be"), (PairTongue("low"), "utf-16-le")):
            for row in itertools.product(range(256), repeat=2):
                try:
                    text = [ord(letter) for letter in bytes(row).decode(codec)]
                except UnicodeDecodeError:
                    text = [-1]
                if read_or_none(tongue, list(row)) != (text if all(map(is_sign_number, text)) else None):
                    self.fail(row)


class FirstFault(unittest.TestCase):
    def test_ahead_of_the_fault_is_a_beginning_with_its_unit_is_none(self):
        for sample in samples():
            for row in sample.rows():
                reader = Reader(sample.tongue)
                reader.feed(row)
                if reader.over():
                    self.assertTrue(sample.goes_on(row[:reader.taken() - sample.known.unit]), row)
                    self.assertFalse(sample.goes_on(row[:reader.taken()]), row)
                else:
                    whole = len(row) - len(row) % sample.known.unit
                    self.assertTrue(sample.goes_on(row[:whole]), row)
                    self.assertIs(reader.held() == 0, bytes(row) in sample.texts(), row)

    def test_what_goes_on_is_told_a_rest(self):
        for sample in samples():
            for row in sample.rows():
                self.assertIs(rest_of(sample.tongue, row) is not None, sample.goes_on(row), row)


class Pieces(unittest.TestCase):
    def test_texts_written_and_read_in_pieces(self):
        for sample in samples():
            for text in texts_of(sample)[::7]:
                for pieces in few_ways_to_cut(text):
                    writer = Writer(sample.tongue)
                    reader = Reader(sample.tongue)
                    for piece in pieces:
                        self.assertEqual(reader.feed(writer.feed(piece)), piece)
                        self.assertEqual((reader.page(), reader.held()), (writer.page(), 0))
                    self.assertEqual((reader.end(), reader.faults()), ([], []))


def through_letters(row, size):
    """The row, written in letters and read from them in pieces of a size."""
    writer = LetterWriter()
    letters = [letter for at in range(0, len(row), size) for letter in writer.feed(row[at:at + size])] + writer.end()
    reader = LetterReader()
    told = [byte for at in range(0, len(letters), size) for byte in reader.feed(letters[at:at + size])] + reader.end()
    return told if reader.bad() is None else None


def goals_of(sample):
    """Tongues that have every sign of a sample's tongue."""
    return (LeadTongue(), PairTongue(), PairTongue("low"), sample.tongue)


class AllTheWay(unittest.TestCase):
    def test_a_text_through_writers_letters_turners_and_readers(self):
        for sample in samples():
            for number, text in enumerate(texts_of(sample)[::11]):
                size = number % 4 + 1
                writer = Writer(sample.tongue)
                row = [byte for sign in text for byte in writer.feed([sign])]
                for goal in goals_of(sample):
                    there = Turner(sample.tongue, goal)
                    back = Turner(goal, sample.tongue, Put())
                    reader = Reader(sample.tongue)
                    sent = through_letters(row, size)
                    told = []
                    for at in range(0, len(sent), size):
                        told += reader.feed(back.feed(there.feed(sent[at:at + size])))
                    told += reader.feed(back.feed(there.end())) + reader.feed(back.end()) + reader.end()
                    self.assertEqual(told, text)
                    self.assertEqual((there.lacks(), back.lacks(), there.faults(), back.faults()), ([], [], [], []))
                    self.assertEqual(reader.faults(), [])

    def test_any_row_that_is_seen_and_written_again_is_the_very_row(self):
        for sample in samples():
            for number, row in enumerate(sample.rows()[::5]):
                size = number % 3 + 1
                reader = GoingReader(sample.tongue, See())
                writer = SeenWriter(sample.tongue)
                turner = Turner(sample.tongue, sample.tongue, See())
                told = []
                turned = []
                for at in range(0, len(row), size):
                    piece = through_letters(row[at:at + size], 2)
                    told += writer.feed(reader.feed(piece))
                    turned += turner.feed(piece)
                told += writer.feed(reader.end())
                self.assertEqual((told, turned + turner.end(), turner.lacks()), (row, row, []))
                self.assertEqual([byte for part in parts_of(sample.tongue, row) for byte in part[1]], row)

    def test_texts_and_rows_stand_in_the_same_order_where_it_is_kept(self):
        kept = 0
        for sample in samples():
            texts = sorted(texts_of(sample))
            rows = [write(sample.tongue, text) for text in texts]
            told = disorder(sample.tongue)
            kept += told is None
            self.assertIs(rows == sorted(rows), told is None, sample.some)
        self.assertTrue(3 < kept < len(samples()))

    def test_guessed_as_it_is_read(self):
        tongues = [sample.tongue for sample in samples()]
        for row in samples()[0].rows(2) + samples()[2].rows(3) + samples()[6].rows(3) + samples()[-3].rows(4):
            for first in range(0, len(tongues), 12):
                some = tongues[first:first + 12]
                guesser = Guesser(some)
                guesser.feed(row)
                are = [number for number, tongue in enumerate(some) if read_or_none(tongue, row) is not None]
                self.assertEqual(guesser.are(), are, row)
                self.assertLessEqual(set(are), set(guesser.may()))


class ByTurns(unittest.TestCase):
    """Several objects of one tongue, fed by turns, tell what each tells by itself."""

    def makers(self, tongue):
        way = See()
        return (lambda: Reader(tongue), lambda: GoingReader(tongue, way), lambda: GoingReader(tongue, Leave(), 9),
                lambda: Turner(tongue, tongue, way), lambda: Turner(tongue, LeadTongue()),
                lambda: Turner(tongue, tongue, Put(66)), lambda: Turner(LeadTongue(), tongue, way))

    def steps(self, thing, row):
        """What it tells byte by byte and at the end, one at a time."""
        for byte in row:
            yield (thing.feed([byte]), thing.faults())
        yield (thing.end(), thing.faults())

    def test_readers_and_turners(self):
        for sample in samples():
            for one, other in zip(sample.rows()[::37], sample.rows()[::-41]):
                lists = [(make, row) for make in self.makers(sample.tongue) for row in (one, other)]
                alone = [list(self.steps(make(), row)) for make, row in lists]
                walks = [self.steps(make(), row) for make, row in lists]
                by_turns = [[] for walk in walks]
                for turn in range(max(len(one), len(other)) + 1):
                    for number, walk in enumerate(walks):
                        by_turns[number] += itertools.islice(walk, 1)
                        self.between(sample.tongue, one)
                self.assertEqual(by_turns, alone)

    def between(self, tongue, row):
        """Calls that are to leave no trace."""
        in_step(tongue, row[:len(row) - len(row) % tongue.unit()])
        rest_of(tongue, row)
        read_or_none(tongue, row)

    def test_writers(self):
        for sample in samples():
            signs = signs_of(sample)
            for one, other in zip(itertools.product(signs, repeat=3), list(itertools.product(signs, repeat=3))[::-1]):
                writers = [Writer(sample.tongue), SeenWriter(sample.tongue), Writer(sample.tongue)]
                rows = [[], [], []]
                for first, second in zip(one, other):
                    for number, sign in enumerate((first, first, second)):
                        rows[number] += writers[number].feed([sign])
                expected = [write(sample.tongue, list(text)) for text in (one, one, other)]
                self.assertEqual(rows, expected)
                self.assertEqual(write_seen(sample.tongue, list(one)), expected[0])

    def test_guessers(self):
        tongues = [sample.tongue for sample in samples()[2:14]]
        rows = samples()[2].rows(3)[::9]
        for one, other in zip(rows, rows[::-1]):
            guessers = [Guesser(tongues), Guesser(tongues[::-1])]
            for first, second in itertools.zip_longest(one, other):
                guessers[0].feed([] if first is None else [first])
                guessers[1].feed([] if second is None else [second])
            for guesser, row, some in zip(guessers, (one, other), (tongues, tongues[::-1])):
                rests = [rest_of(tongue, row) for tongue in some]
                self.assertEqual(guesser.may(), [number for number, rest in enumerate(rests) if rest is not None])
                self.assertEqual(guesser.are(), [number for number, rest in enumerate(rests) if rest == []])


if __name__ == "__main__":
    unittest.main()
