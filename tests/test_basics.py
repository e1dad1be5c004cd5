"""webnames.basics: INTEGERS, COUNTS, SIGNS [2], [5] and ranks [8]."""

import random
import unittest

from tests.helper import ANY_VALUES
from webnames.basics import is_count, is_integer, is_sign, ranked


class Kinds(unittest.TestCase):
    def test_integers(self):
        for value in (0, 1, -1, 24, 10 ** 29, -(10 ** 29)):
            self.assertIs(is_integer(value), True)
        for value in (True, False, None, "1", 1.0, [1], (1,), b"1"):
            self.assertIs(is_integer(value), False)

    def test_counts(self):
        for value in (0, 1, 10 ** 29):
            self.assertIs(is_count(value), True)
        for value in (-1, -(10 ** 29), True, False, None, "0", 0.0, [], ()):
            self.assertIs(is_count(value), False)

    def test_signs(self):
        self.assertIs(is_sign(1), True)
        self.assertIs(is_sign(-1), True)
        for value in (0, 2, -2, True, False, None, "+", 1.0, [1], (1,)):
            self.assertIs(is_sign(value), False)

    def test_any_value(self):
        for value in ANY_VALUES:
            for asked in (is_integer, is_count, is_sign):
                self.assertIs(type(asked(value)), bool)
            self.assertIs(is_integer(value), type(value) is int)


class Ranks(unittest.TestCase):
    def test_plain(self):
        self.assertEqual(ranked([]), [])
        self.assertEqual(ranked([5]), [0])
        self.assertEqual(ranked([30, 10, 20, 10]), [2, 0, 1, 0])
        self.assertEqual(ranked(["b", "a", "b"]), [1, 0, 1])

    def test_lists_and_tuples(self):
        keys = [("k", 0, [(2, 0)]), ("k", 0, [(1, 1)]), ("a", 9, []), ("k", 0, [(1, 1)])]
        self.assertEqual(ranked(keys), [2, 1, 0, 1])
        self.assertEqual(ranked([[1], [], [1, 0], [0]]), [2, 0, 3, 1])

    def test_by_counting_lesser_ones(self):
        rng = random.Random(1)
        for _ in range(200):
            keys = [(rng.randrange(4), [rng.randrange(3)]) for _ in range(rng.randrange(15))]
            unlike = [key for place, key in enumerate(keys) if key not in keys[:place]]
            self.assertEqual(ranked(keys), [len([x for x in unlike if x < key]) for key in keys])


if __name__ == "__main__":
    unittest.main()
