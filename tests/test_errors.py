"""The error classes: where they stand, and their fields."""

import unittest

from bytetongue import errors
from bytetongue.errors import BadLetters, BadPage, BadTable, Faulty, NoOrder, NoSign, TongueError, TooGreat

CLASSES = (TooGreat, NoSign, NoOrder, BadPage, BadTable, BadLetters, Faulty)
FIELDS = (
    (NoSign, ("sign", "at")),
    (BadPage, ("which",)),
    (BadTable, ("one", "other")),
    (BadLetters, ("at",)),
    (Faulty, ("place", "length", "kind")),
)
NUMBERS = (0, 1, -1, 7, 250, 1114112, -10 ** 60, 10 ** 60, 10 ** 5000, -10 ** 5000)


class Standing(unittest.TestCase):
    def test_the_refusal_stands_straight_under_value_error(self):
        self.assertEqual(TongueError.__bases__, (ValueError,))

    def test_each_stands_straight_under_the_refusal(self):
        for kind in CLASSES:
            self.assertEqual(kind.__bases__, (TongueError,), kind)
            self.assertTrue(issubclass(kind, ValueError), kind)

    def test_none_stands_under_another(self):
        for kind in CLASSES:
            self.assertEqual([other for other in CLASSES if issubclass(kind, other)], [kind])

    def test_each_bears_its_name(self):
        for kind in CLASSES + (TongueError,):
            self.assertIs(getattr(errors, kind.__name__), kind)
            self.assertEqual(kind.__module__, "bytetongue.errors")


class Fields(unittest.TestCase):
    def test_fields_are_told_in_the_order_in_which_they_were_handed(self):
        for kind, names in FIELDS:
            values = [11, 22, "short"][:len(names)]
            error = kind(*values)
            self.assertEqual([getattr(error, name) for name in names], values, kind)

    def test_numbers_of_any_size_are_told_as_they_are(self):
        for kind, names in FIELDS:
            for number in NUMBERS:
                values = [number + step for step in range(len(names))]
                error = kind(*values)
                self.assertEqual([getattr(error, name) for name in names], values, kind)

    def test_the_kinds_of_faults(self):
        for word in ("broken", "strange", "short"):
            self.assertEqual(Faulty(3, 2, word).kind, word)

    def test_two_errors_have_fields_of_their_own(self):
        one = NoSign(5, 1)
        other = NoSign(6, 2)
        self.assertEqual((one.sign, one.at, other.sign, other.at), (5, 1, 6, 2))

    def test_each_is_taken_by_its_name_and_by_those_above(self):
        for kind, names in FIELDS + ((TooGreat, ()), (NoOrder, ())):
            for taken in (kind, TongueError, ValueError):
                with self.assertRaises(taken) as caught:
                    raise kind(*[1, 2, "short"][:len(names)])
                self.assertIs(type(caught.exception), kind)


if __name__ == "__main__":
    unittest.main()
