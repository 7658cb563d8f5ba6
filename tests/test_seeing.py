"""Seen texts written whole and in pieces [27], [4], [2]."""

import itertools
import unittest

from bytetongue.going import GoingReader
from bytetongue.lead import LeadTongue
from bytetongue.pairs import PairTongue
from bytetongue.seeing import SeenWriter, write_seen
from bytetongue.shifts import ShiftTongue
from bytetongue.tables import TableTongue
from bytetongue.tongues import Tongue
from bytetongue.ways import See
from bytetongue.writers import Writer
from bytetongue.writing import write
from tests.helper import (HIGH, LEAD, LOW, NOTHING, SHIFT_LISTS, TABLES, check_no_sign, check_told_anew,
                          few_ways_to_cut, not_signs, samples, shift_known, spoil, table_known, ways_to_cut)

WIDE = (65, 228, 65279, 1114111)
TONGUES = [(LeadTongue(), LEAD, WIDE), (PairTongue(), HIGH, WIDE), (PairTongue("low"), LOW, WIDE)]
TONGUES += [(Tongue(), NOTHING, ())]
TONGUES += [(ShiftTongue(first, second), shift_known(first, second), sorted(set(first + second)))
            for first, second in SHIFT_LISTS]
TONGUES += [(TableTongue(rows), table_known(rows), [sign for sign, row in rows]) for rows in TABLES]
# The seen bytes of 0, 65, 254 and 255.
SEEN = (61184, 61249, 61438, 61439)


def seen_texts(signs, size):
    """All seen texts of these signs and some seen bytes, up to a size."""
    things = tuple(signs) + SEEN[:5 - min(len(signs), 3)]
    return [list(text) for many in range(size + 1) for text in itertools.product(things, repeat=many)]


def no_things():
    """What is neither a sign nor a seen byte."""
    return [thing for thing in not_signs() if not (type(thing) is int and 61184 <= thing <= 61439)]


def known_seen(known, text):
    """The seen text's row, and the page to which it goes."""
    row = b""
    page = 0
    for thing in text:
        if thing // 256 == 239:
            row += bytes([thing % 256])
        else:
            more, page = known.spelled(thing, page)
            row += more
    return (list(row), page)


class Written(unittest.TestCase):
    def check_cut(self, tongue, known, text, ways):
        """Each piece has the row that it has within the whole text."""
        behind = [known_seen(known, text[:size]) for size in range(len(text) + 1)]
        self.assertEqual(write_seen(tongue, list(text)), behind[-1][0], text)
        for pieces in ways:
            writer = SeenWriter(tongue)
            self.assertEqual(writer.page(), 0)
            size = 0
            for piece in pieces:
                ahead = len(behind[size][0])
                size += len(piece)
                told = writer.feed(list(piece))
                if (told, writer.page()) != (behind[size][0][ahead:], behind[size][1]):
                    self.fail((text, pieces, told, writer.page()))

    def test_short_seen_texts_cut_in_every_way(self):
        for tongue, known, signs in TONGUES:
            for text in seen_texts(signs, 3):
                self.check_cut(tongue, known, text, ways_to_cut(text))

    def test_longer_seen_texts_cut_in_every_way(self):
        for tongue, known, signs in TONGUES:
            things = [thing for pair in zip(itertools.cycle(SEEN), signs) for thing in pair] or list(SEEN)
            for text in ((things * 4)[:7], (things[::-1] * 4)[:7], list(SEEN) + things[:3]):
                self.check_cut(tongue, known, text, ways_to_cut(text))

    def test_every_seen_byte(self):
        for tongue, known, signs in TONGUES:
            for byte in range(256):
                self.assertEqual(write_seen(tongue, [61184 + byte]), [byte])
                for sign in signs:
                    text = [sign, 61184 + byte, sign]
                    self.check_cut(tongue, known, text, [[text], [text[:1], text[1:]]])

    def test_texts_are_written_as_by_a_plain_writer(self):
        for tongue, known, signs in TONGUES:
            for many in range(4):
                for text in itertools.product(signs, repeat=many):
                    self.assertEqual(write_seen(tongue, list(text)), write(tongue, list(text)))

    def test_long_seen_texts(self):
        for tongue, known, signs in TONGUES:
            text = ((list(signs) + list(SEEN)) * 400)[:400]
            self.check_cut(tongue, known, text, [[text], [text[:1], text[1:300], text[300:]]])

    def test_written_out(self):
        self.assertEqual(write_seen(LeadTongue(), [65, 61439, 228, 61410]), [65, 255, 195, 164, 226])
        self.assertEqual(write_seen(PairTongue(), [61400, 65]), [216, 0, 65])
        self.assertEqual(write_seen(Tongue(), [61185, 61186]), [1, 2])
        writer = SeenWriter(ShiftTongue([65, 66], [66, 67]))
        for text, row, page in (([65, 61439], [0, 255], 0), ([66], [1], 0), ([67, 61438], [255, 1, 254], 1),
                                ([61438], [254], 1), ([66], [0], 1), ([61184, 65], [0, 254, 0], 0)):
            self.assertEqual((writer.feed(text), writer.page()), (row, page))

    def test_it_stands_under_writer_and_its_arguments_have_their_names(self):
        self.assertTrue(issubclass(SeenWriter, Writer))
        writer = SeenWriter(tongue=ShiftTongue([65], [66]))
        told = writer.feed(text=[66, 61184])
        self.assertEqual((told, writer.page()), ([255, 0, 0], 1))
        self.assertEqual((type(told), type(writer.page())), (list, int))
        self.assertIs(type(write_seen(tongue=LeadTongue(), text=[65])), list)


class Refused(unittest.TestCase):
    def check(self, tongue, ahead, piece, thing, at):
        """The refusal leaves all as if the piece had never been fed."""
        check_no_sign(self, write_seen, thing, at, tongue, list(piece))
        writer = SeenWriter(tongue)
        other = SeenWriter(tongue)
        writer.feed(list(ahead))
        other.feed(list(ahead))
        page = writer.page()
        handed = list(piece)
        check_no_sign(self, writer.feed, thing, at, handed)
        self.assertEqual(len(handed), len(piece))
        self.assertTrue(all(one is another for one, another in zip(handed, piece)))
        self.assertEqual(writer.page(), page)
        check_no_sign(self, writer.feed, thing, at, handed)
        self.assertEqual(writer.page(), page)
        self.assertEqual((writer.feed(ahead), writer.page()), (other.feed(ahead), other.page()))

    def test_what_is_neither_a_sign_nor_a_seen_byte(self):
        for tongue, known, signs in TONGUES:
            things = [61184] + list(signs) + [61439]
            for thing in no_things():
                for ahead in [[]] + [[sign, 61184] for sign in signs]:
                    for place in range(len(things) + 1):
                        self.check(tongue, ahead, things[:place] + [thing] + things[place:], thing, place)

    def test_a_sign_that_the_tongue_has_not(self):
        for tongue, known, signs in TONGUES[3:]:
            for missing in (0, 69, 1114111):
                for ahead in seen_texts(signs, 1):
                    for piece in seen_texts(signs, 2):
                        self.check(tongue, ahead, piece + [missing], missing, len(piece))
                        self.check(tongue, ahead, piece + [missing, -1] + piece, missing, len(piece))

    def test_nothing_of_the_piece_is_written(self):
        writer = SeenWriter(ShiftTongue([65, 66], [66, 67]))
        check_no_sign(self, writer.feed, 68, 3, [67, 61184, 66, 68])
        self.assertEqual(writer.page(), 0)
        self.assertEqual((writer.feed([66]), writer.page()), ([1], 0))
        self.assertEqual((writer.feed([61439, 67]), writer.page()), ([255, 255, 1], 1))
        check_no_sign(self, writer.feed, None, 2, [65, 61184, None])
        self.assertEqual(writer.page(), 1)
        self.assertEqual((writer.feed([66]), writer.page()), ([0], 1))

    def test_a_plain_writer_has_no_seen_bytes(self):
        for tongue, known, signs in TONGUES:
            check_no_sign(self, Writer(tongue).feed, 61249, 0, [61249])


class TheVeryRow(unittest.TestCase):
    """Any row, read by a going reader that sees, and written so, is the very row."""

    def check(self, tongue, pieces):
        reader = GoingReader(tongue, See())
        writer = SeenWriter(tongue)
        things = []
        row = []
        for piece in pieces:
            told = reader.feed(piece)
            things += told
            row += writer.feed(told)
            self.assertEqual(reader.page(), writer.page())
        told = reader.end()
        row += writer.feed(told)
        handed = [byte for piece in pieces for byte in piece]
        if row != handed or write_seen(tongue, things + told) != handed:
            self.fail((pieces, row, things + told))

    def test_each_row_of_some_bytes(self):
        for sample in samples():
            for row in sample.rows():
                self.check(sample.tongue, [row])
            for row in sample.rows(4)[::7]:
                for pieces in ways_to_cut(row):
                    self.check(sample.tongue, pieces)

    def test_every_row_of_two_bytes(self):
        shift = ShiftTongue(list(range(250)), list(range(200, 299)))
        for tongue in (LeadTongue(), PairTongue(), PairTongue("low"), shift):
            for row in itertools.product(range(256), range(0, 256, 3)):
                self.check(tongue, [list(row)])

    def test_long_rows(self):
        for tongue, known, signs in TONGUES:
            for step in (1, 7, 85, 254):
                row = [step * place * place % 256 for place in range(2000)]
                self.check(tongue, [row])
                self.check(tongue, [row[:3], row[3:900], [], row[900:]])
        for sample in samples():
            row = [sample.some[place * place // 3 % len(sample.some)] for place in range(1999)]
            for pieces in few_ways_to_cut(row)[:9]:
                self.check(sample.tongue, pieces)

    def test_where_the_row_has_a_seen_byte_s_own_number(self):
        self.check(PairTongue(), [[239, 0, 0, 65, 239, 255]])
        self.check(PairTongue("low"), [[0, 239, 65, 0, 255, 239]])
        self.check(LeadTongue(), [[238, 188, 128, 238, 191, 191]])


class LeftAlone(unittest.TestCase):
    def test_what_is_handed_in_stays_as_it_was_and_is_not_held_on_to(self):
        for tongue, known, signs in TONGUES:
            for text in seen_texts(signs, 2):
                handed = list(text)
                writer = SeenWriter(tongue)
                row = writer.feed(handed)
                self.assertEqual(handed, text)
                handed[:] = [9, 9, 9]
                self.assertEqual((row, writer.page()), known_seen(known, text))
                both = list(row)
                spoil(row)
                self.assertEqual((both + writer.feed(text), writer.page()), known_seen(known, text + text))

    def test_what_is_told_may_be_changed(self):
        for tongue, known, signs in TONGUES:
            for text in seen_texts(signs, 2):
                handed = list(text)
                check_told_anew(self, [lambda: write_seen(tongue, handed)])
                self.assertEqual(handed, text)

    def test_two_writers_of_one_tongue_do_not_mix(self):
        tongue = ShiftTongue([65], [66])
        one = SeenWriter(tongue)
        other = SeenWriter(tongue)
        self.assertEqual((one.feed([66, 61184]), other.feed([61184, 65])), ([255, 0, 0], [0, 0]))
        self.assertEqual((one.page(), other.page()), (1, 0))
        self.assertEqual((one.feed([66]), other.feed([66])), ([0], [255, 0]))


if __name__ == "__main__":
    unittest.main()
