"""`made` of webnames.webs: webs told in any sequence [13], and its errors at their first places."""

import random
import unittest

from tests.helper import ANY_VALUES, near, sign_of_sequence, some_webs
from webnames.errors import (
    InvalidHand, InvalidPart, InvalidSide, InvalidTie, TakenHand, TakenSide, TakenTie, TooMany,
)
from webnames.webs import is_web, made

K = ("k", 0)
FOUR = [K] * 5
STAR = [(0, 1, 1), (0, 2, 1), (0, 3, 1)]
ROW = [(0, 1, 1), (1, 2, 2), (2, 3, 1), (2, 4, 1)]


def told_anyhow(rng, web):
    """Arguments of `made` that tell the web, in some sequence, each tie, hand and side in some way."""
    beside = near(web)
    ties = [rng.choice([(a, b, order), (b, a, order)]) for a, b, order in web[1]]
    hands = []
    for part, sign in web[2]:
        sequence = list(beside[part])
        rng.shuffle(sequence)
        hands.append((part, rng.choice([list, tuple])(sequence), sign * sign_of_sequence(sequence)))
    sides = []
    for a, b, sign in web[3]:
        first, second = [x for x in beside[a] if x != b], [y for y in beside[b] if y != a]
        i, j = rng.randrange(len(first)), rng.randrange(len(second))
        sign = sign * (-1) ** (i + j)
        x, y = first[i], second[j]
        sides.append(rng.choice([(a, b, x, y, sign), (b, a, y, x, sign)]))
    for rows in (ties, hands, sides):
        rng.shuffle(rows)
    return [rng.choice([list, tuple])(rows) for rows in (web[0], ties, hands, sides)]


class Made(unittest.TestCase):
    def fails(self, error, *arguments):
        with self.assertRaises(type(error)) as caught:
            made(*arguments)
        self.assertEqual(vars(caught.exception), vars(error))
        for value in vars(caught.exception).values():
            self.assertNotIsInstance(value, bool)

    def test_made_again(self):
        rng = random.Random(7)
        for web in some_webs(8, 60):
            for _ in range(4):
                again = made(*told_anyhow(rng, web))
                self.assertEqual(again, web)
                self.assertIs(is_web(again), True)

    def test_empty(self):
        self.assertEqual(made([], [], [], []), ([], [], [], []))
        self.assertEqual(made((), (), (), ()), ([], [], [], []))

    def test_sides_at_each_pair(self):
        ties = [(0, 1, 2), (0, 2, 1), (0, 3, 1), (1, 4, 1), (1, 5, 1)]
        for x in (2, 3):
            for y in (4, 5):
                for sign in (1, -1):
                    expected = [(0, 1, sign * (1 if x == 2 else -1) * (1 if y == 4 else -1))]
                    self.assertEqual(made([K] * 6, ties, [], [(0, 1, x, y, sign)])[3], expected)
                    self.assertEqual(made([K] * 6, ties, [], [(1, 0, y, x, sign)])[3], expected)

    def test_invalid_part(self):
        self.fails(InvalidPart(1), [K, ("k", True), None], [], [], [])
        self.fails(InvalidPart(0), (["k", 0],), [None], [None], [None])
        self.fails(InvalidPart(24), [K] * 24 + [("k", 10)], [], [], [])

    def test_invalid_tie(self):
        for tie in ((0, 0, 1), (0, 5, 1), (-1, 0, 1), (0, 1, 0), (0, 1, 5), (0, 1), [0, 1, 1], (0, True, 1),
                    (False, 1, 1), (1, 2, True), (0, 1, 1, 1), None, (0, None, 1), (0, [1], 1)):
            self.fails(InvalidTie(1), FOUR, [(3, 4, 1), tie, None], [None], [None])
        # Ahead of a tie that is taken, also one at an earlier place.
        self.fails(InvalidTie(2), FOUR, [(0, 1, 1), (1, 0, 2), (0, 9, 1)], [], [])

    def test_taken_tie(self):
        self.fails(TakenTie(2), FOUR, [(0, 1, 1), (0, 2, 1), (1, 0, 1), (2, 0, 1)], [None], [None])
        self.fails(TakenTie(1), FOUR, [(0, 1, 1), (0, 1, 1)], [], [])

    def test_invalid_hand(self):
        for hand in ((0, [1, 2], 1), (0, [1, 2, 2], 1), (0, [1, 2, 4], 1), (0, [1, 2, 3, 3], 1), (0, [1, 2, 3], 0),
                     (0, [1, 2, 3], True), (False, [1, 2, 3], 1), (0, [True, 2, 3], 1), [0, [1, 2, 3], 1],
                     (0, [1, 2, 3]), (1, [0], 1), (4, [], 1), (5, [1, 2, 3], 1), (0, "123", 1), (0, None, 1),
                     (0, [1, 2, "3"], 1), (0, [1, 2, [3]], 1), (0, [1, 2, None], 1), None, (0, 1, 2, 3)):
            self.fails(InvalidHand(1), FOUR, STAR, [(0, [1, 2, 3], 1), hand, None], [None])
        # Ahead of one that is taken, also one at an earlier place.
        self.fails(InvalidHand(2), FOUR, STAR, [(0, [1, 2, 3], 1), (0, [1, 2, 3], 1), None], [None])

    def test_hand_of_parts_with_any_ties(self):
        for many in range(7):
            ties = [(0, k + 1, 1) for k in range(many)]
            hand = (0, list(range(1, many + 1)), -1)
            if many in (3, 4):
                self.assertEqual(made([K] * 7, ties, [hand], [])[2], [(0, -1)])
            else:
                self.fails(InvalidHand(0), [K] * 7, ties, [hand], [])

    def test_taken_hand(self):
        hands = [(0, [1, 2, 3], 1), (0, (3, 2, 1), -1), (0, [1, 2, 3], 1)]
        self.fails(TakenHand(1), FOUR, STAR, hands, [None])

    def test_invalid_side(self):
        right = (1, 2, 0, 3, 1)
        for side in ((1, 2, 3, 0, 1), (1, 2, 2, 3, 1), (1, 2, 0, 1, 1), (1, 2, 0, 0, 1), (1, 2, 0, 3, 0),
                     (1, 2, 0, 3, True), (True, 2, 0, 3, 1), (1, 2, False, 3, 1), (1, 2, 0, 3), [1, 2, 0, 3, 1],
                     (0, 1, 0, 2, 1), (2, 3, 1, 2, 1), (1, 1, 0, 0, 1), (0, 3, 1, 2, 1), (1, 5, 0, 3, 1), None,
                     (1, 2, 0, None, 1), (1, 2, [0], 3, 1), (2, 4, 1, 2, 1), (1, 2, 4, 3, 1), (1, 2, 3, 3, 1)):
            self.fails(InvalidSide(1), FOUR, ROW, [], [right, side, None])
        self.fails(InvalidSide(2), FOUR, ROW, [], [right, right, None])
        ring = [(0, 1, 2), (1, 2, 1), (2, 0, 1)]
        self.assertEqual(made([K] * 3, ring, [], [(1, 0, 2, 2, -1)])[3], [(0, 1, -1)])

    def test_sides_of_ties_with_any_further_neighbours(self):
        for first in range(4):
            for second in range(4):
                ties = [(0, 1, 2)] + [(0, 2 + k, 1) for k in range(first)] + [(1, 5 + k, 1) for k in range(second)]
                if first in (1, 2) and second in (1, 2):
                    self.assertEqual(made([K] * 8, ties, [], [(0, 1, 2, 5, 1)])[3], [(0, 1, 1)])
                else:
                    self.fails(InvalidSide(0), [K] * 8, ties, [], [(0, 1, 2, 5, 1)])

    def test_taken_side(self):
        self.fails(TakenSide(1), FOUR, ROW, [], [(1, 2, 0, 3, 1), (2, 1, 4, 0, -1), (1, 2, 0, 4, 1)])

    def test_too_many(self):
        ring = [(k, (k + 1) % 24, 1) for k in range(24)] + [(k, (k + 2) % 24, 1) for k in range(24)]
        self.assertEqual(len(made([K] * 24, ring, [], [])[1]), 48)
        self.fails(TooMany("parts", 24), [K] * 25, ring + [(0, 12, 1)], [], [])
        self.fails(TooMany("ties", 48), [K] * 24, ring + [(0, 12, 1)], [], [])
        star = [(0, k + 1, 1) for k in range(7)]
        self.assertEqual(len(made([K] * 24, star[:6], [], [])[1]), 6)
        self.fails(TooMany("ties of a part", 6), [K] * 24, star, [], [])
        self.fails(TooMany("ties", 48), [K] * 24, ring + star[4:], [], [])
        # Each limit behind all other errors.
        self.fails(InvalidTie(7), [K] * 25, star + [None], [], [])
        self.fails(InvalidSide(0), [K] * 25, star, [], [None])

    def test_any_value(self):
        for value in ANY_VALUES:
            if value is None or type(value) in (int, bool, str, float, dict):
                self.fails(InvalidPart(0), [value], [value], [value], [value])
            self.fails(InvalidTie(0), [K, K], [value], [], [])
            self.fails(InvalidTie(0), [K, K], [(value, value, value)], [], [])
            self.fails(InvalidHand(0), FOUR, STAR, [value], [])
            self.fails(InvalidHand(0), FOUR, STAR, [(value, value, value)], [])
            self.fails(InvalidHand(0), FOUR, STAR, [(0, value, 1)], [])
            self.fails(InvalidSide(0), FOUR, ROW, [], [value])
            self.fails(InvalidSide(0), FOUR, ROW, [], [(1, 2, value, 3, 1)])


if __name__ == "__main__":
    unittest.main()
