"""Signs, texts, bytes, rows and seen texts, of anything [5], [2]."""

import unittest

from bytetongue.signs import is_byte, is_row, is_seen, is_sign, is_text
from tests.helper import BORDERS, is_seen_number, is_sign_number, near, no_numbers

FAR = (-10 ** 5000, -10 ** 60, -2 ** 64, -65536, -256, 1114112, 2 ** 21, 2 ** 32, 2 ** 64, 10 ** 60, 10 ** 5000)
SIGNS = (0, 65, 127, 128, 255, 256, 55295, 57344, 61183, 61440, 65279, 65533, 65535, 65536, 1114110, 1114111)
SEEN_BYTES = (61184, 61185, 61300, 61438, 61439)
HALVES = (55296, 55297, 56318, 56319, 56320, 56321, 57342, 57343)


def is_byte_number(number):
    return number in range(256)


class Told(unittest.TestCase):
    """Truths alone are told, so they are asked for by `is`."""

    def told(self, call, thing, answer):
        self.assertIs(call(thing), answer, (call.__name__, str(type(thing))))

    def list_told(self, call, good, bad):
        """Lists of good things, and those with one bad thing at any place."""
        self.told(call, [], True)
        self.told(call, list(good), True)
        self.told(call, list(good) * 20, True)
        for thing in good:
            self.told(call, [thing], True)
        for thing in bad:
            self.told(call, [thing], False)
            for place in range(len(good) + 1):
                self.told(call, list(good[:place]) + [thing] + list(good[place:]), False)

    def no_list_told(self, call, good):
        self.told(call, tuple(good), False)
        self.told(call, (), False)
        self.told(call, {thing: thing for thing in good}, False)
        self.told(call, set(good), False)
        self.told(call, list(good)[0], False)
        for thing in no_numbers() + list(FAR):
            if thing.__class__ is not list:
                self.told(call, thing, False)


class Numbers(Told):
    def test_every_number_to_the_last_sign_and_beyond(self):
        wrong = [number for number in range(-600, 1114112 + 600) if is_sign(number) is not is_sign_number(number)]
        self.assertEqual(wrong, [])

    def test_signs_next_to_each_border(self):
        for number in SIGNS:
            self.told(is_sign, number, True)
        for number in SEEN_BYTES + HALVES + FAR + (-2, -1, 1114112, 1114113):
            self.told(is_sign, number, False)

    def test_bytes(self):
        for number in list(range(-600, 1200)) + near(BORDERS):
            self.told(is_byte, number, is_byte_number(number))
        for number in FAR:
            self.told(is_byte, number, False)

    def test_what_is_no_number_is_neither(self):
        for thing in no_numbers():
            self.told(is_sign, thing, False)
            self.told(is_byte, thing, False)


class Lists(Told):
    def test_texts(self):
        bad = SEEN_BYTES + HALVES + FAR + (-1, 1114112)
        self.list_told(is_text, SIGNS, list(bad) + no_numbers())
        self.no_list_told(is_text, SIGNS)

    def test_rows(self):
        good = (0, 1, 65, 127, 128, 254, 255)
        bad = SIGNS[5:] + SEEN_BYTES + HALVES + FAR + (-1, -255, 256)
        self.list_told(is_row, good, list(bad) + no_numbers())
        self.no_list_told(is_row, good)

    def test_seen_texts(self):
        good = SIGNS[:4] + SEEN_BYTES + SIGNS[4:]
        bad = HALVES + FAR + (-1, 1114112)
        self.list_told(is_seen, good, list(bad) + no_numbers())
        self.list_told(is_seen, SEEN_BYTES, HALVES)
        self.no_list_told(is_seen, good)

    def test_lists_of_one_number_at_each_border(self):
        for number in near(BORDERS):
            self.told(is_text, [number], is_sign_number(number))
            self.told(is_row, [number], is_byte_number(number))
            self.told(is_seen, [number], is_seen_number(number))

    def test_every_seen_byte(self):
        for byte in range(256):
            self.told(is_seen, [61184 + byte], True)
            self.told(is_text, [61184 + byte], False)

    def test_a_list_that_stands_in_itself(self):
        inner = [65]
        inner.append(inner)
        for call in (is_sign, is_byte, is_text, is_row, is_seen):
            self.told(call, inner, False)

    def test_long_lists(self):
        for call, thing in ((is_text, 65536), (is_row, 255), (is_seen, 61184)):
            self.told(call, [thing] * 2000, True)
            self.told(call, [thing] * 1999 + [1114112], False)


class LeftAlone(unittest.TestCase):
    def test_what_is_handed_in_stays_as_it_was(self):
        for call in (is_text, is_row, is_seen, is_sign, is_byte):
            for things in ([], [65, 66], [61184, 65], [65, 55296, 66], [True, [65], None]):
                handed = list(things)
                first = call(handed)
                self.assertEqual(handed, things)
                self.assertIs(call(handed), first)

    def test_the_list_is_looked_at_anew_each_time(self):
        text = [65, 66]
        self.assertIs(is_text(text), True)
        text.append(55296)
        self.assertIs(is_text(text), False)
        text.pop()
        self.assertIs(is_text(text), True)

    def test_the_names_of_what_is_handed_in(self):
        for call in (is_sign, is_byte):
            self.assertIs(call(thing=65), True)
        for call in (is_text, is_row, is_seen):
            self.assertIs(call(thing=[65]), True)


if __name__ == "__main__":
    unittest.main()
