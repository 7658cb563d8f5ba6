"""Ways to go on behind a fault [24], [2]."""

import unittest

from bytetongue.ways import Leave, Put, See, Way
from tests.helper import check_told_anew, spoil

ROWS = ([], [0], [65], [255], [0, 0], [226, 130], [255, 0, 128], [240, 144, 128, 65], [1] * 6, list(range(256)))


class Told(unittest.TestCase):
    def check(self, way, row, told):
        answer = way.told(row)
        self.assertIs(type(answer), list)
        self.assertEqual(answer, told)
        self.assertEqual([type(thing) for thing in answer], [int] * len(told))

    def test_leave_and_a_way_by_itself_tell_nothing(self):
        for row in ROWS:
            self.check(Leave(), row, [])
            self.check(Way(), row, [])

    def test_put_tells_one_sign(self):
        for row in ROWS:
            self.check(Put(), row, [65533])
            for sign in (0, 63, 65, 61183, 61440, 65533, 65535, 1114111):
                self.check(Put(sign), row, [sign])
                self.check(Put(sign=sign), row, [sign])

    def test_see_tells_the_seen_byte_of_each_byte(self):
        self.check(See(), [], [])
        self.check(See(), [0, 65, 255, 65], [61184, 61249, 61439, 61249])
        for byte in range(256):
            self.check(See(), [byte], [61184 + byte])
        for row in ROWS:
            self.check(See(), row, [61184 + byte for byte in row])

    def test_the_name_of_what_is_handed_in(self):
        self.assertEqual(Way().told(row=[1]), [])
        self.assertEqual(Leave().told(row=[1]), [])
        self.assertEqual(Put().told(row=[1]), [65533])
        self.assertEqual(See().told(row=[1]), [61185])


class Classes(unittest.TestCase):
    def test_the_three_stand_under_way_and_not_under_one_another(self):
        three = (Leave, Put, See)
        for one in three:
            self.assertTrue(issubclass(one, Way))
            self.assertIsNot(one, Way)
            for other in three:
                self.assertIs(issubclass(one, other), one is other)


class LeftAlone(unittest.TestCase):
    def test_each_telling_is_a_new_list(self):
        for way in (Way(), Leave(), Put(), Put(65), See()):
            for row in ROWS:
                handed = list(row)
                check_told_anew(self, [lambda: way.told(handed)])
                self.assertEqual(handed, row)
                told = way.told(handed)
                self.assertIsNot(told, handed)
                self.assertIsNot(told, way.told(handed))

    def test_what_is_handed_in_is_not_held_on_to(self):
        for way in (Way(), Leave(), Put(), Put(65), See()):
            handed = [1, 2]
            told = way.told(handed)
            kept = list(told)
            spoil(handed)
            self.assertEqual(told, kept)
            self.assertEqual(way.told([1, 2]), kept)

    def test_two_ways_do_not_mix(self):
        one = Put(65)
        other = Put(66)
        third = Put()
        self.assertEqual((one.told([1]), other.told([1]), third.told([1])), ([65], [66], [65533]))


if __name__ == "__main__":
    unittest.main()
