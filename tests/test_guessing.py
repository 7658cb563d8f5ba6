"""In which of several tongues bytes may be a text [33], [22], [4], [2]."""

import itertools
import unittest

from bytetongue.guessing import Guesser
from bytetongue.lead import LeadTongue
from bytetongue.pairs import PairTongue
from bytetongue.reading import rest_of
from bytetongue.shifts import ShiftTongue
from bytetongue.tables import TableTongue
from bytetongue.tongues import Tongue
from bytetongue.writing import write
from tests.helper import (HIGH, LEAD, LOW, NOTHING, check_told_anew, few_ways_to_cut, known_course, shift_known, spoil,
                          table_known, ways_to_cut)

TABLE = [(65, [0, 65]), (66, [65]), (67, [216, 0, 220])]
KNOWN = (
    (LeadTongue(), LEAD), (PairTongue(), HIGH), (PairTongue("low"), LOW), (Tongue(), NOTHING),
    (ShiftTongue([65, 66], [66, 67]), shift_known([65, 66], [66, 67])), (TableTongue(TABLE), table_known(TABLE)),
    (ShiftTongue(list(range(250)), []), shift_known(list(range(250)), [])), (TableTongue([]), table_known([])),
    (ShiftTongue([], [65]), shift_known([], [65])), (LeadTongue(), LEAD), (Tongue(), NOTHING), (PairTongue(), HIGH),
)
SOME = (0, 1, 65, 216, 220, 255)


def goes_on(known, row):
    """Whether it is a text's row, and a beginning of a sign's row behind that; and whether it is a text's row."""
    course = known_course(known, row)
    if [met for met in course if met.kind != "sign"]:
        return (False, False)
    first = course[-1].last if course else 0
    page = course[-1].page if course else 0
    return (first == len(row) or bytes(row[first:]) in known.beginnings(page), first == len(row))


def known_guess(knowns, row):
    """What may and are tell behind this row."""
    both = [goes_on(known, row) for known in knowns]
    return ([number for number, pair in enumerate(both) if pair[0]],
            [number for number, pair in enumerate(both) if pair[1]])


class Case(unittest.TestCase):
    def check_cut(self, chosen, row, ways):
        knowns = [known for tongue, known in chosen]
        behind = [known_guess(knowns, row[:size]) for size in range(len(row) + 1)]
        for pieces in ways:
            guesser = Guesser([tongue for tongue, known in chosen])
            size = 0
            self.assertEqual((guesser.may(), guesser.are()), behind[0])
            for piece in pieces:
                size += len(piece)
                self.assertIsNone(guesser.feed(list(piece)))
                if (guesser.may(), guesser.are()) != behind[size]:
                    self.fail((row, pieces, guesser.may(), guesser.are(), behind[size]))


class Guessed(Case):
    def test_short_rows(self):
        for many in range(5):
            for row in itertools.product(SOME, repeat=many):
                self.check_cut(KNOWN, list(row), [[[byte] for byte in row]])

    def test_cut_in_every_way(self):
        for row in ([0, 65, 0, 65], [216, 0, 220, 0, 65], [65, 0, 255], [0, 1, 255, 1, 0], [0, 65, 216, 0, 220, 220],
                    [255, 0, 254], [226, 130, 172, 65], [255, 254, 65], []):
            self.check_cut(KNOWN, row, ways_to_cut(row))

    def test_every_byte(self):
        for one in range(256):
            self.check_cut(KNOWN, [one], [[[one]]])
            for ahead in ([65], [0, 65], [216, 0], [0, 216], [195], [255]):
                self.check_cut(KNOWN, ahead + [one], [[ahead, [one]]])

    def test_lists_of_none_to_twelve_tongues(self):
        for many in range(13):
            for turn in (1, -1):
                for row in ([], [0, 65], [65], [0, 65, 216], [255, 0, 0], [0, 1, 255]):
                    self.check_cut(KNOWN[::turn][:many], row, few_ways_to_cut(row))

    def test_one_tongue_twice(self):
        lead = LeadTongue()
        shift = ShiftTongue([65], [66])
        guesser = Guesser([lead, shift, lead, shift])
        self.assertEqual((guesser.may(), guesser.are()), ([0, 1, 2, 3], [0, 1, 2, 3]))
        guesser.feed([0])
        self.assertEqual((guesser.may(), guesser.are()), ([0, 1, 2, 3], [0, 1, 2, 3]))
        guesser.feed([255])
        self.assertEqual((guesser.may(), guesser.are()), ([1, 3], []))
        guesser.feed([0])
        self.assertEqual((guesser.may(), guesser.are()), ([1, 3], [1, 3]))
        guesser.feed([0, 255])
        self.assertEqual((guesser.may(), guesser.are()), ([], []))

    def test_ahead_of_any_piece(self):
        guesser = Guesser([tongue for tongue, known in KNOWN])
        self.assertEqual((guesser.may(), guesser.are()), (list(range(12)), list(range(12))))
        guesser.feed([])
        self.assertEqual((guesser.may(), guesser.are()), (list(range(12)), list(range(12))))

    def test_no_tongues(self):
        guesser = Guesser([])
        for row in ([], [65], [255]):
            self.assertEqual((guesser.feed(row), guesser.may(), guesser.are()), (None, [], []))

    def test_an_odd_byte_at_the_end(self):
        for ahead in ([], [0, 65], [65, 0, 65, 0]):
            for byte in range(256):
                guesser = Guesser([PairTongue(), PairTongue("low")])
                guesser.feed(ahead)
                guesser.feed([byte])
                may = [1] if byte in (220, 221, 222, 223, 239) else [0, 1]
                self.assertEqual((guesser.may(), guesser.are()), (may, []), (ahead, byte))

    def test_what_an_odd_byte_rules_out_may_not_come_again(self):
        guesser = Guesser([PairTongue()])
        guesser.feed([220])
        self.assertEqual((guesser.may(), guesser.are()), ([], []))
        guesser.feed([0, 0, 65])
        self.assertEqual((guesser.may(), guesser.are()), ([], []))

    def test_an_odd_byte_behind_a_head(self):
        for byte in range(256):
            guesser = Guesser([PairTongue(), PairTongue("low")])
            guesser.feed([216, 216, byte])
            self.assertEqual(guesser.may(), [0, 1] if byte in (220, 221, 222, 223) else [1])

    def test_behind_a_fault_nothing_brings_it_back(self):
        guesser = Guesser([LeadTongue(), Tongue(), TableTongue(TABLE)])
        guesser.feed([65])
        self.assertEqual((guesser.may(), guesser.are()), ([0, 2], [0, 2]))
        guesser.feed([255])
        for piece in ([], [65], [65] * 9):
            guesser.feed(piece)
            self.assertEqual((guesser.may(), guesser.are()), ([], []))

    def test_as_rest_of_says(self):
        tongues = [tongue for tongue, known in KNOWN]
        for row in itertools.product((0, 65, 195, 216, 220, 255), repeat=3):
            guesser = Guesser(tongues)
            guesser.feed(list(row))
            rests = [rest_of(tongue, list(row)) for tongue in tongues]
            self.assertEqual(guesser.may(), [number for number, rest in enumerate(rests) if rest is not None], row)
            self.assertEqual(guesser.are(), [number for number, rest in enumerate(rests) if rest == []], row)

    def test_texts_of_each_tongue_are_told_among_others(self):
        tongues = [tongue for tongue, known in KNOWN]
        texts = {0: [65, 8364, 1114111], 1: [65, 8364, 65536], 2: [65, 8364, 65536], 4: [65, 67, 66], 5: [65, 66, 67],
                 6: [0, 249, 65], 8: [65, 65]}
        for number, text in texts.items():
            guesser = Guesser(tongues)
            for sign in range(len(text)):
                row = write(tongues[number], text[:sign + 1])[len(write(tongues[number], text[:sign])):]
                for size in range(len(row)):
                    guesser.feed(row[size:size + 1])
                    self.assertIn(number, guesser.may())
                    self.assertIs(number in guesser.are(), size == len(row) - 1)
                    self.assertLessEqual(set(guesser.are()), set(guesser.may()))

    def test_20_000_bytes(self):
        guesser = Guesser([tongue for tongue, known in KNOWN])
        for piece in range(10):
            guesser.feed([0, 65] * 1000)
        self.assertEqual((guesser.may(), guesser.are()), ([0, 1, 2, 5, 6, 9, 11], [0, 1, 2, 5, 6, 9, 11]))

    def test_kinds_and_names(self):
        guesser = Guesser(tongues=[LeadTongue()])
        self.assertIsNone(guesser.feed(row=[65]))
        self.assertEqual((type(guesser.may()), type(guesser.are())), (list, list))
        self.assertEqual([type(number) for number in guesser.may() + guesser.are()], [int, int])


class LeftAlone(Case):
    def test_the_list_of_tongues_changed_behind_changes_nothing(self):
        handed = [LeadTongue(), PairTongue()]
        guesser = Guesser(handed)
        self.assertEqual(len(handed), 2)
        handed[0] = Tongue()
        handed.append(LeadTongue())
        guesser.feed([0, 65])
        self.assertEqual((guesser.may(), guesser.are()), ([0, 1], [0, 1]))
        handed.clear()
        guesser.feed([65])
        self.assertEqual((guesser.may(), guesser.are()), ([0, 1], [0]))

    def test_what_is_handed_in_stays_as_it_was_and_is_not_held_on_to(self):
        for row in ([0, 65, 0], [216, 0, 220, 0], [226, 130]):
            tongues = [tongue for tongue, known in KNOWN]
            kept = list(tongues)
            guesser = Guesser(tongues)
            for byte in row:
                handed = [byte]
                guesser.feed(handed)
                self.assertEqual(handed, [byte])
                handed[:] = [7, 7]
            self.assertEqual(tongues, kept)
            self.assertEqual((guesser.may(), guesser.are()), known_guess([known for tongue, known in KNOWN], row))

    def test_what_is_told_may_be_changed(self):
        guesser = Guesser([tongue for tongue, known in KNOWN])
        for byte in (0, 65, 0):
            guesser.feed([byte])
            check_told_anew(self, [guesser.may, guesser.are])
            spoil(guesser.may())
        self.assertEqual((guesser.may(), guesser.are()),
                         known_guess([known for tongue, known in KNOWN], [0, 65, 0]))

    def test_guessers_of_the_same_tongues_do_not_mix(self):
        tongues = [ShiftTongue([65], [66]), LeadTongue()]
        one = Guesser(tongues)
        other = Guesser(tongues)
        one.feed([255])
        self.assertEqual((one.may(), other.may()), ([0], [0, 1]))
        other.feed([0])
        one.feed([0])
        self.assertEqual((one.may(), other.may()), ([0], [0, 1]))
        one.feed([254])
        other.feed([254])
        self.assertEqual((one.may(), other.may()), ([0], []))


if __name__ == "__main__":
    unittest.main()
