"""Rows led from one tongue to another in pieces [32], [27], [4], [2]."""

import itertools
import unittest

from bytetongue.lead import LeadTongue
from bytetongue.pairs import PairTongue
from bytetongue.reading import read
from bytetongue.shifts import ShiftTongue
from bytetongue.tables import TableTongue
from bytetongue.tongues import Tongue
from bytetongue.turning import Turner
from bytetongue.ways import Leave, Put, See, Way
from bytetongue.writing import write
from tests.helper import (HIGH, LEAD, LOW, NOTHING, WAYS, check_no_sign, check_told_anew, few_ways_to_cut, known_course,
                          many_signs, not_signs, samples, shift_known, spoil, table_known, ways_to_cut, with_short)

SHIFT = ShiftTongue([65, 66], [66, 67])
SHIFT_KNOWN = shift_known([65, 66], [66, 67])
WIDE_SHIFT = ShiftTongue([65, 68, 228], [67, 66, 65533])
WIDE_SHIFT_KNOWN = shift_known([65, 68, 228], [67, 66, 65533])
TABLE = [(65, [1]), (66, [2, 1]), (128512, [2, 2, 3]), (65536, [3, 3])]
KNOWN = (
    (LeadTongue(), LEAD), (PairTongue(), HIGH), (PairTongue("low"), LOW), (SHIFT, SHIFT_KNOWN),
    (WIDE_SHIFT, WIDE_SHIFT_KNOWN), (TableTongue(TABLE), table_known(TABLE)), (Tongue(), NOTHING),
)
# Rows of each of these tongues: of texts, and with faults of each kind.
ROWS = (
    ([65, 195, 164, 66, 67], [67, 66, 68, 255, 67, 65], [226, 130, 65, 240, 159, 152, 128, 226], [239, 191, 189, 66],
     [67, 67, 195, 67, 255, 128], [240, 144, 128, 128, 66, 226, 130]),
    ([0, 65, 0, 66, 0, 67], [0, 67, 220, 0, 0, 66, 216], [216, 61, 222, 0, 0, 67, 0], [216, 0, 0, 67, 239, 65, 0, 66]),
    ([65, 0, 66, 0, 67, 0], [67, 0, 0, 220, 66, 0, 216], [61, 216, 0, 222, 67, 0, 0], [0, 216, 67, 0, 65, 239, 66, 0]),
    ([0, 1, 255, 1, 0, 254, 0], [255, 0, 255, 1, 254, 1], [255, 1, 9, 254, 0, 255], [254, 1, 1, 255]),
    ([0, 1, 2, 255, 0, 1, 2, 254], [255, 2, 254, 255, 1], [9, 255, 9, 255, 1, 254]),
    ([1, 2, 1, 2, 2, 3, 3, 3], [2, 2, 1, 1, 3, 1], [2, 3, 3, 2, 2], [9, 1, 2]),
    ([1, 2, 3], [65]),
)


def known_turn(source, goal, row, tells, instead):
    """Behind each number of bytes, and last behind the end: the row told in all, the lacks and the faults."""
    course = known_course(source, row)
    states = []
    for size in list(range(len(row) + 1)) + [None]:
        behind = with_short(course, row) if size is None else [met for met in course if met.size <= size]
        states.append(known_state(goal, row, behind, tells, instead))
    return states


def known_state(goal, row, course, tells, instead):
    things = []
    faults = []
    for met in course:
        if met.kind == "sign":
            things.append(met.sign)
            continue
        faults.append((met.first, met.last - met.first, met.kind))
        if tells is None:
            break
        things += tells(row[met.first:met.last])
    written = []
    lacks = []
    page = 0
    for number, thing in enumerate(things):
        if thing // 256 == 239:
            written.append(thing % 256)
            continue
        spelled = goal.spelled(thing, page)
        if spelled is None:
            lacks.append((number, thing))
            spelled = (b"", page) if instead is None else goal.spelled(instead, page)
        page = spelled[1]
        written += list(spelled[0])
    return (written, lacks, faults)


class Case(unittest.TestCase):
    def check_step(self, turner, told, ahead, state, about):
        """A step tells what is told in all behind it, less what was told in all ahead of it."""
        if type(told) is not list or told != state[0][len(ahead[0]):]:
            self.fail((about, told, state, ahead))
        if (turner.lacks(), turner.faults()) != state[1:]:
            self.fail((about, turner.lacks(), turner.faults(), state))

    def check_cut(self, source, goal, row, ways, number, instead):
        """With the way of this number, or, where there is none such, with a plain reader."""
        way, tells = WAYS[number] if number is not None else (None, None)
        states = known_turn(source[1], goal[1], row, tells, instead)
        for pieces in ways:
            about = (source[0], goal[0], row, pieces, way, instead)
            turner = Turner(source[0], goal[0], way, instead)
            self.check_step(turner, [], ([],), ([], [], []), about)
            size = 0
            for piece in pieces:
                ahead = states[size]
                size += len(piece)
                self.check_step(turner, turner.feed(list(piece)), ahead, states[size], about)
            self.check_step(turner, turner.end(), states[size], states[-1], about)
            for more in ([], [65, 0, 65, 0], [255] * 9):
                self.check_step(turner, turner.feed(more), states[-1], states[-1], about)
                self.check_step(turner, turner.end(), states[-1], states[-1], about)


def insteads_of(known):
    """No instead, and some that the tongue has."""
    return [None] + [sign for sign in (65, 66, 67) if known.spelled(sign) is not None]


class Turned(Case):
    def test_from_each_tongue_to_each(self):
        for source, rows in zip(KNOWN, ROWS):
            for goal in KNOWN:
                for row in rows:
                    for number in [None] + list(range(len(WAYS))):
                        for instead in insteads_of(goal[1]):
                            self.check_cut(source, goal, row, few_ways_to_cut(row), number, instead)

    def test_cut_in_every_way(self):
        turn = 0
        for source, rows in zip(KNOWN, ROWS):
            for goal in KNOWN:
                for row in rows:
                    turn += 1
                    number = (None, 0, 1, 2, 3, 4)[turn % 6]
                    insteads = insteads_of(goal[1])
                    self.check_cut(source, goal, row, ways_to_cut(row), number, insteads[turn % len(insteads)])

    def test_each_row_of_some_bytes(self):
        for place, sample in enumerate(samples()):
            for turn, row in enumerate(sample.rows(3)):
                goal = KNOWN[(turn + place) % len(KNOWN)]
                for number in (None, turn % 5):
                    insteads = insteads_of(goal[1])
                    self.check_cut((sample.tongue, sample.known), goal, row, few_ways_to_cut(row)[:2], number,
                                   insteads[turn // 5 % len(insteads)])

    def test_a_text_is_what_it_is_when_it_is_read_and_written_whole(self):
        tongues = (LeadTongue(), PairTongue(), PairTongue("low"))
        text = list(many_signs()[::211])[:400]
        for source, goal in itertools.product(tongues, repeat=2):
            row = write(source, text)
            for pieces in ([row], [row[:1], row[1:]], [[byte] for byte in row]):
                turner = Turner(source, goal)
                told = [byte for piece in pieces for byte in turner.feed(piece)] + turner.end()
                self.assertEqual(told, write(goal, text))
                self.assertEqual(read(goal, told), text)
                self.assertEqual((turner.lacks(), turner.faults()), ([], []))

    def test_20_000_bytes(self):
        turner = Turner(LeadTongue(), SHIFT, Put(66), 65)
        told = []
        for piece in range(10):
            told += turner.feed([67, 255, 68, 65] * 500)
        self.assertEqual((len(turner.lacks()), len(turner.faults())), (5000, 5000))
        self.assertEqual(turner.lacks()[-1], (19998, 68))
        self.assertEqual(told, ([255, 1, 0, 254, 0, 0]) * 5000)


class WrittenOut(Case):
    def check(self, turner, told, row, lacks, faults):
        self.assertEqual(told, row)
        self.assertEqual((turner.lacks(), turner.faults()), (lacks, faults))

    def test_the_goal_s_page_goes_on_from_piece_to_piece(self):
        turner = Turner(LeadTongue(), SHIFT)
        for row, told in (([65], [0]), ([67], [255, 1]), ([66], [0]), ([], []), ([67, 65], [1, 254, 0]), ([66], [1])):
            self.check(turner, turner.feed(row), told, [], [])
        self.check(turner, turner.end(), [], [], [])

    def test_lacks_left_out(self):
        turner = Turner(LeadTongue(), SHIFT)
        self.check(turner, turner.feed([65, 68, 67, 69]), [0, 255, 1], [(1, 68), (3, 69)], [])
        self.check(turner, turner.feed([68, 66]), [0], [(1, 68), (3, 69), (4, 68)], [])
        self.check(turner, turner.end(), [], [(1, 68), (3, 69), (4, 68)], [])

    def test_lacks_with_an_instead(self):
        turner = Turner(LeadTongue(), SHIFT, None, 67)
        self.check(turner, turner.feed([65, 68, 69]), [0, 255, 1, 1], [(1, 68), (2, 69)], [])
        self.check(turner, turner.feed([65, 70]), [254, 0, 255, 1], [(1, 68), (2, 69), (4, 70)], [])

    def test_an_instead_of_the_sign_0(self):
        turner = Turner(LeadTongue(), TableTongue([(0, [7])]), instead=0)
        self.check(turner, turner.feed([65, 0]), [7, 7], [(0, 65)], [])

    def test_seen_bytes_have_numbers_and_are_no_lacks(self):
        turner = Turner(LeadTongue(), SHIFT, See(), 66)
        self.check(turner, turner.feed([255, 68, 67]), [255, 1, 255, 1], [(1, 68)], [(0, 1, "strange")])
        self.check(turner, turner.feed([226, 130]), [], [(1, 68)], [(0, 1, "strange")])
        faults = [(0, 1, "strange"), (3, 2, "broken")]
        self.check(turner, turner.feed([69, 240]), [226, 130, 0], [(1, 68), (5, 69)], faults)
        self.check(turner, turner.end(), [240], [(1, 68), (5, 69)], faults + [(6, 1, "short")])

    def test_a_put_s_sign_that_the_goal_has_not(self):
        turner = Turner(LeadTongue(), SHIFT, Put())
        self.check(turner, turner.feed([65, 255, 66]), [0, 1], [(1, 65533)], [(1, 1, "strange")])
        turner = Turner(LeadTongue(), SHIFT, Put(), 67)
        self.check(turner, turner.feed([65, 255, 66]), [0, 255, 1, 0], [(1, 65533)], [(1, 1, "strange")])
        self.check(turner, turner.feed([195]), [], [(1, 65533)], [(1, 1, "strange")])
        self.check(turner, turner.end(), [1], [(1, 65533), (3, 65533)], [(1, 1, "strange"), (3, 1, "short")])

    def test_a_put_s_sign_that_the_goal_has(self):
        turner = Turner(LeadTongue(), SHIFT, Put(67), 65)
        self.check(turner, turner.feed([65, 255, 66, 68]), [0, 255, 1, 0, 254, 0], [(3, 68)], [(1, 1, "strange")])

    def test_leave_and_a_way_by_itself_have_no_numbers(self):
        for way in (Leave(), Way()):
            turner = Turner(LeadTongue(), SHIFT, way)
            self.check(turner, turner.feed([255, 255, 68, 65]), [0], [(0, 68)], [(0, 1, "strange"), (1, 1, "strange")])

    def test_plain_it_is_over_behind_the_first_fault(self):
        turner = Turner(LeadTongue(), PairTongue())
        self.check(turner, turner.feed([65, 255, 66]), [0, 65], [], [(1, 1, "strange")])
        self.check(turner, turner.feed([66]), [], [], [(1, 1, "strange")])
        self.check(turner, turner.end(), [], [], [(1, 1, "strange")])
        turner = Turner(LeadTongue(), PairTongue())
        self.check(turner, turner.feed([65, 226]), [0, 65], [], [])
        self.check(turner, turner.end(), [], [], [(1, 1, "short")])
        self.check(turner, turner.feed([130, 172]), [], [], [(1, 1, "short")])
        self.check(turner, turner.end(), [], [], [(1, 1, "short")])

    def test_a_goal_without_signs(self):
        turner = Turner(LeadTongue(), Tongue(), See())
        self.check(turner, turner.feed([65, 255, 66]), [255], [(0, 65), (2, 66)], [(1, 1, "strange")])

    def test_seen_bytes_leave_the_goal_s_page(self):
        turner = Turner(LeadTongue(), SHIFT, See())
        self.check(turner, turner.feed([67, 255, 66]), [255, 1, 255, 0], [], [(1, 1, "strange")])

    def test_the_names_of_what_is_handed_in(self):
        turner = Turner(source=LeadTongue(), goal=SHIFT, way=Put(66), instead=65)
        self.check(turner, turner.feed(row=[255, 68]), [1, 0], [(1, 68)], [(0, 1, "strange")])
        self.assertEqual([type(thing) for thing in (turner.lacks(), turner.faults())], [list, list])
        self.assertEqual([type(thing) for thing in turner.lacks() + turner.faults()], [tuple, tuple])
        turner = Turner(LeadTongue(), SHIFT, instead=65)
        self.check(turner, turner.feed([68, 255, 66]), [0], [(0, 68)], [(1, 1, "strange")])


class Refused(unittest.TestCase):
    def test_an_instead_that_the_goal_has_not(self):
        for source, known in KNOWN:
            for way in (None, Leave(), Put(), See()):
                for goal, instead in ((SHIFT, 68), (SHIFT, 0), (SHIFT, 65533), (TableTongue(TABLE), 67), (Tongue(), 65),
                                      (TableTongue([]), 0), (ShiftTongue([], []), 65), (WIDE_SHIFT, 128512)):
                    check_no_sign(self, Turner, instead, 0, source, goal, way, instead)
                    check_no_sign(self, Turner, instead, 0, source, goal, way=way, instead=instead)

    def test_what_is_no_sign(self):
        for goal, known in KNOWN:
            for thing in not_signs():
                if thing is not None:
                    check_no_sign(self, Turner, thing, 0, LeadTongue(), goal, None, thing)

    def test_an_instead_that_stands_on_the_other_page_alone_is_had(self):
        turner = Turner(LeadTongue(), SHIFT, None, 67)
        self.assertEqual(turner.feed([0]), [255, 1])


class LeftAlone(Case):
    def test_what_is_handed_in_stays_as_it_was_and_is_not_held_on_to(self):
        for source, rows in zip(KNOWN, ROWS):
            for goal in KNOWN:
                for row in rows:
                    for pieces in few_ways_to_cut(row)[::2]:
                        turner = Turner(source[0], goal[0], See())
                        told = []
                        for piece in pieces:
                            handed = list(piece)
                            told += turner.feed(handed)
                            self.assertEqual(handed, piece)
                            handed[:] = [0] * 9
                        told += turner.end()
                        expected = known_turn(source[1], goal[1], row, WAYS[2][1], None)[-1]
                        self.assertEqual((told, turner.lacks(), turner.faults()), expected)

    def test_what_is_told_may_be_changed(self):
        for source, rows in zip(KNOWN, ROWS):
            for goal in KNOWN:
                for row in rows:
                    turner = Turner(source[0], goal[0], Put())
                    for byte in row:
                        spoil(turner.feed([byte]))
                        check_told_anew(self, [turner.lacks, turner.faults])
                    spoil(turner.end())
                    check_told_anew(self, [turner.lacks, turner.faults, turner.end, lambda: turner.feed([1, 2])])
                    expected = known_turn(source[1], goal[1], row, WAYS[1][1], None)[-1]
                    self.assertEqual((turner.lacks(), turner.faults()), expected[1:])

    def test_turners_of_the_same_tongues_do_not_mix(self):
        way = See()
        one = Turner(SHIFT, SHIFT, way)
        other = Turner(SHIFT, SHIFT, way, 65)
        self.assertEqual((one.feed([255]), other.feed([0])), ([], [0]))
        self.assertEqual((one.feed([1]), other.feed([1])), ([255, 1], [1]))
        self.assertEqual((one.feed([254, 1]), other.feed([254])), ([254, 1], [254]))
        self.assertEqual((one.faults(), other.faults()), ([(2, 1, "broken")], [(2, 1, "strange")]))
        self.assertEqual((one.lacks(), other.lacks()), ([], []))

    def test_one_tongue_as_source_and_goal(self):
        for tongue, rows in zip(KNOWN, ROWS):
            for row in rows:
                turner = Turner(tongue[0], tongue[0], See())
                told = [byte for piece in row for byte in turner.feed([piece])] + turner.end()
                self.assertEqual(told, row)


class Rows(unittest.TestCase):
    def test_the_rows_above_have_lacks_and_faults_of_each_kind(self):
        for (tongue, known), rows in list(zip(KNOWN, ROWS))[:-1]:
            courses = [with_short(known_course(known, row), row) for row in rows]
            kinds = {met.kind for course in courses for met in course}
            self.assertEqual(kinds, {"sign", "strange", "broken", "short"})
            signs = {met.sign for course in courses for met in course if met.kind == "sign"}
            self.assertTrue([sign for sign in signs if SHIFT_KNOWN.spelled(sign) is None
                             or WIDE_SHIFT_KNOWN.spelled(sign) is None or KNOWN[5][1].spelled(sign) is None])


if __name__ == "__main__":
    unittest.main()
