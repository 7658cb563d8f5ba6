"""Lists of numbers in order, and beginnings [6], [2]."""

import itertools
import unittest

from bytetongue.orders import ahead, begins

# Each pair's first list is ahead of its second one.
PAIRS = (
    ([1, 9, 9], [2, 0, 0]),
    ([5, 1, 9], [5, 2, 0]),
    ([5, 5, 1], [5, 5, 2]),
    ([1, 9, 9, 9], [2]),
    ([1], [2, 0, 0]),
    ([5, 1, 9, 9], [5, 2]),
    ([-1], [0]),
    ([-2], [-1]),
    ([-10 ** 60], [-10 ** 59]),
    ([-10 ** 60], [10 ** 60]),
    ([10 ** 60], [10 ** 60 + 1]),
    ([2 ** 64 - 1, 5], [2 ** 64, 5]),
    ([9], [10]),
    ([7, 99], [7, 100]),
    ([255], [256]),
    ([0, 1], [1, 0]),
    ([10 ** 5000], [10 ** 5000 + 1]),
)

# Each pair's first list is a beginning of its second one, and shorter.
BEGINNINGS = (
    ([], [0]),
    ([], [-1]),
    ([], [-10 ** 60, 5]),
    ([1], [1, 0]),
    ([1], [1, -5]),
    ([3, 2], [3, 2, 1]),
    ([0, 0], [0, 0, 0]),
    ([10 ** 60, -4], [10 ** 60, -4, -10 ** 60]),
    ([5] * 399, [5] * 400),
)

ALIKE = ([], [0], [-1], [1, 2, 3], [10 ** 60, -10 ** 60], [0, 0, 0], [7] * 400)


def plain_order(one, other):
    """The point's words, place by place."""
    for place in range(min(len(one), len(other))):
        if one[place] != other[place]:
            return -1 if one[place] < other[place] else 1
    if len(one) == len(other):
        return 0
    return -1 if len(one) < len(other) else 1


def small_lists():
    return [list(numbers) for size in range(4) for numbers in itertools.product((-1, 0, 1, 2), repeat=size)]


class Order(unittest.TestCase):
    def told(self, one, other, answer):
        told = ahead(one, other)
        self.assertEqual(told, answer)
        self.assertIs(type(told), int)

    def test_where_they_differ_first(self):
        for lesser, greater in PAIRS:
            self.told(lesser, greater, -1)
            self.told(greater, lesser, 1)

    def test_the_place_where_they_differ(self):
        for size in (1, 2, 3, 10, 50):
            for place in range(size):
                lesser = [4] * size
                greater = [4] * place + [5] + [3] * (size - place - 1)
                self.told(lesser, greater, -1)
                self.told(greater, lesser, 1)

    def test_a_beginning_is_ahead(self):
        for shorter, longer in BEGINNINGS:
            self.told(shorter, longer, -1)
            self.told(longer, shorter, 1)

    def test_alike(self):
        for numbers in ALIKE:
            self.told(list(numbers), list(numbers), 0)
            self.told(numbers, numbers, 0)

    def test_all_small_lists(self):
        for one in small_lists():
            for other in small_lists():
                self.told(one, other, plain_order(one, other))


class Beginnings(unittest.TestCase):
    def test_a_shorter_one(self):
        for shorter, longer in BEGINNINGS:
            self.assertIs(begins(shorter, longer), True)
            self.assertIs(begins(longer, shorter), False)

    def test_each_of_itself(self):
        for numbers in ALIKE:
            self.assertIs(begins(list(numbers), list(numbers)), True)

    def test_the_list_without_numbers(self):
        for numbers in ALIKE:
            self.assertIs(begins([], list(numbers)), True)
            self.assertIs(begins(list(numbers), []), not numbers)

    def test_what_differs(self):
        for lesser, greater in PAIRS:
            self.assertIs(begins(lesser, greater), False)
            self.assertIs(begins(greater, lesser), False)

    def test_what_stands_not_in_front(self):
        for one in ([2], [3], [2, 3], [1, 3], [2, 1], [1, 2, 3, 4]):
            self.assertIs(begins(one, [1, 2, 3]), False)

    def test_all_small_lists(self):
        for one in small_lists():
            for other in small_lists():
                beginnings = [other[:size] for size in range(len(other) + 1)]
                self.assertIs(begins(one, other), one in beginnings)


class LeftAlone(unittest.TestCase):
    def test_what_is_handed_in_stays_as_it_was(self):
        for lesser, greater in PAIRS + BEGINNINGS:
            one = list(lesser)
            other = list(greater)
            for call in (ahead, begins):
                first = (call(one, other), call(other, one))
                self.assertEqual((one, other), (lesser, greater))
                self.assertEqual((call(one, other), call(other, one)), first)

    def test_the_names_of_what_is_handed_in(self):
        self.assertEqual(ahead(one=[1], other=[2]), -1)
        self.assertIs(begins(one=[1], other=[1, 2]), True)
        self.assertIs(begins(other=[1], one=[1, 2]), False)


if __name__ == "__main__":
    unittest.main()
