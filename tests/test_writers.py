"""Texts written in pieces [23], [2]."""

import itertools
import unittest

from bytetongue.lead import LeadTongue
from bytetongue.pairs import PairTongue
from bytetongue.shifts import ShiftTongue
from bytetongue.tables import TableTongue
from bytetongue.tongues import Tongue
from bytetongue.writers import Writer
from bytetongue.writing import write
from tests.helper import (HIGH, LEAD, LOW, NOTHING, SHIFT_LISTS, TABLES, check_no_sign, few_ways_to_cut, known_written,
                          many_signs, not_signs, shift_known, spoil, table_known, ways_to_cut)

WIDE = (0, 65, 228, 8364, 65279, 128512, 1114111)
TONGUES = [(LeadTongue(), LEAD, WIDE), (PairTongue(), HIGH, WIDE), (PairTongue("low"), LOW, WIDE)]
TONGUES += [(Tongue(), NOTHING, ())]
TONGUES += [(ShiftTongue(first, second), shift_known(first, second), sorted(set(first + second)))
            for first, second in SHIFT_LISTS]
TONGUES += [(TableTongue(rows), table_known(rows), [sign for sign, row in rows]) for rows in TABLES]


def texts(signs, size):
    """All texts of these signs up to a size."""
    return [list(text) for many in range(size + 1) for text in itertools.product(signs, repeat=many)]


class Written(unittest.TestCase):
    def check_cut(self, tongue, known, text, ways):
        """Each piece has the row that it has within the whole text."""
        behind = [known_written(known, text[:size]) for size in range(len(text) + 1)]
        for pieces in ways:
            writer = Writer(tongue)
            self.assertEqual(writer.page(), 0)
            size = 0
            for piece in pieces:
                ahead = len(behind[size][0])
                size += len(piece)
                told = writer.feed(list(piece))
                if (told, writer.page()) != (behind[size][0][ahead:], behind[size][1]):
                    self.fail((text, pieces, told, writer.page()))

    def test_short_texts_cut_in_every_way(self):
        for tongue, known, signs in TONGUES:
            for text in texts(signs, 4 if len(signs) < 5 else 3):
                self.check_cut(tongue, known, text, ways_to_cut(text))

    def test_longer_texts_cut_in_every_way(self):
        for tongue, known, signs in TONGUES:
            if signs:
                for text in ([signs[place % len(signs)] for place in range(7)], [signs[-1]] * 3 + [signs[0]] * 3):
                    self.check_cut(tongue, known, text, ways_to_cut(text))

    def test_long_texts(self):
        some = list(many_signs()[::199])[:400]
        for tongue, known, signs in TONGUES[:3]:
            self.check_cut(tongue, known, some, [[some], [some[:1], some[1:300], some[300:]]])
            self.check_cut(tongue, known, some[:40], few_ways_to_cut(some[:40]))

    def test_as_one_text_written_whole(self):
        for tongue, known, signs in TONGUES:
            for text in texts(signs, 3):
                writer = Writer(tongue)
                self.assertEqual([byte for sign in text for byte in writer.feed([sign])], write(tongue, text))

    def test_written_out(self):
        writer = Writer(ShiftTongue([65, 66], [66, 67]))
        for text, row, page in (([65], [0], 0), ([67], [255, 1], 1), ([], [], 1), ([66], [0], 1),
                                ([66, 65, 66], [0, 254, 0, 1], 0)):
            self.assertEqual((writer.feed(text), writer.page()), (row, page))

    def test_kinds(self):
        writer = Writer(tongue=ShiftTongue([65], [66]))
        told = writer.feed(text=[66])
        self.assertEqual((type(told), type(writer.page())), (list, int))


class Refused(unittest.TestCase):
    def check(self, tongue, ahead, piece, thing, at):
        """The refusal leaves all as if the piece had never been fed."""
        writer = Writer(tongue)
        other = Writer(tongue)
        writer.feed(list(ahead))
        other.feed(list(ahead))
        page = writer.page()
        handed = list(piece)
        check_no_sign(self, writer.feed, thing, at, handed)
        self.assertEqual(len(handed), len(piece))
        self.assertTrue(all(one is another for one, another in zip(handed, piece)))
        self.assertEqual(writer.page(), page)
        check_no_sign(self, writer.feed, thing, at, handed)
        self.assertEqual(writer.page(), page)
        self.assertEqual((writer.feed(ahead), writer.page()), (other.feed(ahead), other.page()))

    def test_what_is_no_sign(self):
        for tongue, known, signs in TONGUES:
            for thing in not_signs():
                for ahead in [[]] + [[sign] for sign in signs]:
                    self.check(tongue, ahead, [thing], thing, 0)
                    for place in range(len(signs) + 1):
                        self.check(tongue, ahead, list(signs[:place]) + [thing] + list(signs[place:]), thing, place)

    def test_a_sign_that_the_tongue_has_not(self):
        for tongue, known, signs in TONGUES[3:]:
            for missing in (0, 64, 69, 1114111):
                for ahead in texts(signs, 2):
                    for piece in texts(signs, 2):
                        self.check(tongue, ahead, piece + [missing], missing, len(piece))
                        self.check(tongue, ahead, piece + [missing, -1] + piece, missing, len(piece))

    def test_nothing_of_the_piece_is_written(self):
        writer = Writer(ShiftTongue([65, 66], [66, 67]))
        check_no_sign(self, writer.feed, 68, 2, [67, 66, 68])
        self.assertEqual(writer.page(), 0)
        self.assertEqual((writer.feed([66]), writer.page()), ([1], 0))
        self.assertEqual((writer.feed([67]), writer.page()), ([255, 1], 1))
        check_no_sign(self, writer.feed, None, 1, [65, None])
        self.assertEqual(writer.page(), 1)
        self.assertEqual((writer.feed([66]), writer.page()), ([0], 1))

    def test_the_place_counts_in_the_piece(self):
        writer = Writer(LeadTongue())
        writer.feed([65] * 9)
        check_no_sign(self, writer.feed, 55296, 1, [65, 55296])
        check_no_sign(self, writer.feed, 55296, 0, [55296])


class LeftAlone(unittest.TestCase):
    def test_what_is_handed_in_stays_as_it_was_and_is_not_held_on_to(self):
        for tongue, known, signs in TONGUES:
            for text in texts(signs, 2):
                handed = list(text)
                writer = Writer(tongue)
                row = writer.feed(handed)
                self.assertEqual(handed, text)
                handed[:] = [9, 9, 9]
                self.assertEqual((row, writer.page()), known_written(known, text))
                both = list(row)
                spoil(row)
                self.assertEqual((both + writer.feed(text), writer.page()), known_written(known, text + text))

    def test_two_writers_of_one_tongue_do_not_mix(self):
        tongue = ShiftTongue([65], [66])
        one = Writer(tongue)
        other = Writer(tongue)
        self.assertEqual((one.feed([66]), other.feed([65])), ([255, 0], [0]))
        self.assertEqual((one.page(), other.page()), (1, 0))
        self.assertEqual((one.feed([66]), other.feed([66])), ([0], [255, 0]))


if __name__ == "__main__":
    unittest.main()
