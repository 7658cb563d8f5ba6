"""How long two spots of a table tongue may be held apart [30], [29], [2]."""

import itertools
import random
import unittest

from bytetongue.amid import in_step
from bytetongue.slack import slack
from bytetongue.tables import TableTongue
from bytetongue.writing import write
from tests.helper import check_told_anew, known_spots, known_track, small_codes, spoil, table_known

# Of up to sixty bytes in all.
LARGE = (
    [[1, 1, 1, 1, 1, number] for number in range(10)],
    [[number, 1, 2, 3, 4, 5] for number in range(6, 16)],
    [[number, 1, 2, 3, 4, 5] for number in range(10)],
    [[number, number + 1] for number in range(30)],
    [[number] for number in range(60)],
    [[1], [2, 1], [2, 2, 1], [2, 2, 2, 1], [2, 2, 2, 2, 1], [2, 2, 2, 2, 2, 1], [2, 2, 2, 2, 2, 2], [3, 2, 2, 2, 2, 2]],
    [[0, 1, 2, 3, 4, 5], [1, 2, 3, 4, 5, 0], [2, 3, 4, 5, 0, 1], [3, 4, 5, 0, 1, 2], [4, 5, 0, 1, 2, 3],
     [5, 0, 1, 2, 3, 4]],
    [[9, 9, 9, 9, 9, 8], [9, 9, 9, 9, 8], [9, 9, 9, 8], [9, 9, 8], [9, 8], [8]],
    [[9, 9, 9, 9, 9, 9], [8, 9, 9, 9, 9], [7, 9, 9, 9], [6, 9, 9], [5, 9], [4]],
    [[255, 0, 255, 0, 255, 0], [0, 0, 255, 255, 0], [254]],
    [[0, 2, 1, 2, 2], [1, 1, 1, 0], [2, 2, 2, 1, 1], [0, 0, 1, 1, 0, 2], [0, 0, 1, 1, 1], [2, 1, 2, 0, 2],
     [1, 2, 0, 2, 1], [0, 1, 1, 1, 0, 1], [1, 2, 2, 2, 1, 1], [1, 1, 0, 1, 2], [0, 1, 2, 0]],
)


def table_of(code):
    return [(65 + number, row) for number, row in enumerate(code)]


def chance_codes():
    """Codes of up to sixty bytes, made as if by chance, but each time the same."""
    chance = random.Random(30)
    codes = []
    for number in range(300):
        code = []
        some = chance.choice((2, 3, 3, 4, 6, 200))
        sizes = chance.choice(((1, 6), (2, 6), (2, 4), (5, 6), (6, 6)))
        for turn in range(chance.choice((4, 12, 60))):
            row = [chance.randrange(some) for place in range(chance.randint(*sizes))]
            clash = any(row[:len(other)] == other[:len(row)] for other in code)
            if not clash and sum(map(len, code)) + len(row) <= 60:
                code.append(row)
        codes.append(code)
    return codes


def known_slack(known):
    """The greatest length, or None where there is no greatest: forward from all pairs of spots at once."""
    some = sorted({byte for row in known.rows[0] for byte in row})
    steps = {}
    for spot in known_spots(known):
        tracks = {byte: known_track(known, spot, [byte]) for byte in some}
        steps[spot] = {byte: track[1] for byte, track in tracks.items() if track is not None}
    pairs = {frozenset(pair) for pair in itertools.combinations(steps, 2)}
    many = 0
    while pairs:
        further = set()
        for one, other in pairs:
            both = [frozenset((steps[one][byte], steps[other][byte])) for byte in steps[one] if byte in steps[other]]
            further.update(pair for pair in both if len(pair) == 2)
        # What can be come to behind more bytes is never more, so that it stays if it does not grow less.
        if further == pairs:
            return None
        if not further:
            return many
        pairs = further
        many += 1
    return 0


class Case(unittest.TestCase):
    def track(self, known, begun, row):
        spot = (0, bytes(begun))
        self.assertIn(spot, known_spots(known))
        track = known_track(known, spot, row)
        self.assertIsNotNone(track, (begun, row))
        return track

    def check_witness(self, known, witness):
        """Two spots that differ, and a row along which both go on and are held apart."""
        self.assertIs(type(witness), tuple)
        self.assertEqual([type(each) for each in witness], [list] * 3)
        one, other, row = witness
        tracks = (self.track(known, one, row), self.track(known, other, row))
        self.assertFalse([1 for behind_one, behind_other in zip(*tracks) if behind_one == behind_other], witness)
        return tracks

    def check(self, code):
        rows = table_of(code)
        tongue = TableTongue(rows)
        known = table_known(rows)
        told = slack(tongue)
        self.assertIs(type(told), tuple)
        word, many, witness = told
        self.assertIs(type(many), int)
        greatest = known_slack(known)
        if greatest is None:
            self.assertEqual((word, many), ("never", 0), code)
            tracks = self.check_witness(known, witness)
            self.assertTrue(witness[2], code)
            self.assertEqual([track[0] for track in tracks], [track[-1] for track in tracks], told)
        else:
            self.assertEqual((word, many), ("within", greatest), code)
            if len(known_spots(known)) < 2:
                self.assertIsNone(witness, code)
            else:
                self.check_witness(known, witness)
                self.assertEqual(len(witness[2]), many, told)
        return told


class Slack(Case):
    def test_the_document_s_own(self):
        told = self.check([[1], [2, 3]])
        self.assertEqual(told[:2], ("within", 0))
        self.assertEqual((sorted(told[2][:2]), told[2][2]), ([[], [2]], []))
        told = self.check([[1, 2], [2, 1]])
        self.assertEqual(told[:2], ("never", 0))

    def test_without_two_spots(self):
        self.assertEqual(slack(TableTongue([])), ("within", 0, None))
        for many in (1, 2, 60, 64):
            self.assertEqual(slack(TableTongue([(sign, [sign]) for sign in range(many)])), ("within", 0, None))

    def test_small_tables(self):
        words = {self.check(code)[:2] for code in small_codes()}
        self.assertLess({("never", 0), ("within", 0), ("within", 1), ("within", 2)}, words)

    def test_large_tables(self):
        for code in LARGE:
            self.assertLessEqual(sum(map(len, code)), 60)
            self.check(code)

    def test_tables_made_as_if_by_chance(self):
        words = {self.check(code)[:2] for code in chance_codes()}
        self.assertTrue({("never", 0), ("within", 0), ("within", 1), ("within", 2), ("within", 3)} <= words, words)

    def test_a_long_way_apart(self):
        self.assertEqual([self.check(code)[:2] for code in (LARGE[3], LARGE[-1])], [("within", 29), ("within", 36)])

    def test_written_out(self):
        for code, word, many in (
                ([[1], [2, 1]], "within", 0), ([[1, 1]], "never", 0), ([[1, 2]], "within", 0),
                ([[1], [2, 2]], "never", 0), ([[1, 2, 3], [2, 3, 1]], "never", 0), ([[1, 2], [2, 3]], "within", 1),
                ([[1, 2], [2, 3], [3, 4]], "within", 2), ([[1, 2, 3, 4, 5, 6]], "within", 0)):
            self.assertEqual(self.check(code)[:2], (word, many), code)

    def test_two_begun_rows_are_two_spots_though_they_go_alike(self):
        told = self.check([[1, 3, 4], [2, 3, 4]])
        self.assertEqual((told[0], told[1], told[2][2]), ("within", 1, [3]))
        self.assertEqual(sorted(told[2][:2]), [[1], [2]])
        told = self.check([[1, 3, 4, 5, 6, 7], [2, 3, 4, 5, 6, 7]])
        self.assertEqual((told[0], told[1], told[2][2]), ("within", 4, [3, 4, 5, 6]))

    def test_where_the_two_change_places_on_the_way(self):
        # Behind one round of 1 the one is where the other was.
        told = self.check([[1, 1]])
        self.assertEqual(len(told[2][2]) % 2, 0)
        told = self.check([[1, 1, 1]])
        self.assertEqual(len(told[2][2]) % 3, 0)

    def test_the_signs_and_the_order_of_the_tuples_do_not_matter(self):
        for code in small_codes()[::9]:
            turned = [(sign, row) for sign, row in enumerate(reversed(code))]
            self.assertEqual(slack(TableTongue(table_of(code)))[:2], slack(TableTongue(turned))[:2])

    def test_the_name_of_what_is_handed_in(self):
        self.assertEqual(slack(tongue=TableTongue([])), ("within", 0, None))


class AmidTexts(Case):
    """Two who differ behind so many bytes, and no longer, are together one byte on, with nothing begun."""

    def check_texts(self, code, size):
        tongue = TableTongue(table_of(code))
        word, many, witness = slack(tongue)
        if word == "never":
            self.check_never(tongue, witness)
            return
        for text in itertools.product(range(65, 65 + len(code)), repeat=size):
            row = write(tongue, list(text))
            for first in range(len(row) + 1):
                rest = row[first:]
                told = in_step(tongue, rest)
                # Where nobody else could have come so far, one's own sign that was begun must still end.
                latest = max(many + 1, tongue.most() - 1) if first else many + 1
                if told is not None:
                    self.assertLessEqual(told[0], latest, (code, rest))
                else:
                    self.assertLess(len(rest), latest, (code, rest))

    def check_never(self, tongue, witness):
        one, other, row = witness
        for many in (1, 2, 3, 7, 2000 // len(row)):
            self.assertIsNone(in_step(tongue, row * many))

    def test_small_tables(self):
        for code in small_codes():
            if code:
                self.check_texts(code, 3 if len(code) < 5 else 2)

    def test_large_tables(self):
        for code in LARGE:
            self.check_texts(code, 2)
        for code in chance_codes()[::3]:
            if code:
                self.check_texts(code, 4 if len(code) < 4 else 1)

    def test_texts_of_many_signs(self):
        for code in ([[1], [2, 1]], [[1, 2, 3], [2, 3]], [[1, 2], [2, 3], [3, 4]],
                     [[1, 3, 4, 5, 6, 7], [2, 3, 4, 5, 6, 7]]):
            tongue = TableTongue(table_of(code))
            for sign in range(65, 65 + len(code)):
                row = write(tongue, [sign] * 300)
                self.assertLessEqual(in_step(tongue, row)[0], slack(tongue)[1] + 1)


class LeftAlone(unittest.TestCase):
    def test_what_is_told_may_be_changed(self):
        for code in small_codes()[::5] + list(LARGE):
            tongue = TableTongue(table_of(code))
            rows = tongue.rows()
            check_told_anew(self, [lambda: slack(tongue)])
            self.assertEqual(tongue.rows(), rows)

    def test_a_tongue_made_alike_is_answered_alike(self):
        for code in small_codes()[::5] + list(LARGE):
            first = slack(TableTongue(table_of(code)))
            kept = repr(first)
            spoil(first)
            self.assertEqual(repr(slack(TableTongue(table_of(code)))), kept)


if __name__ == "__main__":
    unittest.main()
