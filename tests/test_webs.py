"""webnames.webs but `made`: PARTS, WEBS [5], what is told of a web [11], hands and sides in a sequence [6], [12]."""

import random
import unittest
from itertools import permutations

from tests.helper import ANY_VALUES, changed_once, near, same_kinds, sign_of_sequence, some_webs
from webnames.webs import (
    can_bear_hand, can_bear_sides, further, hand_at, has_hand, has_sides, is_part, is_web, neighbours, side_at,
    tie_order, ties_of,
)

K = ("k", 0)


def star(many):
    """A part with so many ties to others."""
    return ([K] * (many + 1), [(0, k + 1, 1) for k in range(many)], [], [])


def double(first, second, order=2):
    """Parts 0 and 1 with a tie of this order, the first with so many further neighbours, and so the second."""
    ties = [(0, 1, order)] + [(0, 2 + k, 1) for k in range(first)]
    ties += [(1, 2 + first + k, 1) for k in range(second)]
    return ([K] * (2 + first + second), ties, [], [])


def dense(ties):
    """24 parts in a ring and so many further ties, up to 48 in all."""
    pairs = sorted([(k, k + 1) for k in range(23)] + [(0, 23)] + [(k, k + 2) for k in range(22)] + [(0, 22), (1, 23)])
    return ([K] * 24, [(a, b, 4) for a, b in pairs[:ties]], [], [])


def plain_is_web(value):
    """Whether any value is a web, told once more, one condition behind another."""
    def integer(x, low, high):
        return type(x) is int and low <= x <= high

    if type(value) is not tuple or [type(x) for x in value] != [list] * 4:
        return False
    parts, ties, hands, sides = value
    many = len(parts)
    for part in parts:
        if type(part) is not tuple or len(part) != 2 or type(part[0]) is not str or not integer(part[1], -9, 9):
            return False
        if len(part[0]) not in (1, 2, 3, 4) or part[0].strip("abcdefghijklmnopqrstuvwxyz"):
            return False
    for rows, size in ((ties, 3), (hands, 2), (sides, 3)):
        if any(type(row) is not tuple or len(row) != size for row in rows):
            return False
    for a, b, order in ties:
        if not integer(a, 0, many - 1) or not integer(b, 0, many - 1) or not a < b or not integer(order, 1, 4):
            return False
    if many > 24 or len(ties) > 48 or len({tie[:2] for tie in ties}) < len(ties) or sorted(ties) != ties:
        return False
    beside = near(value)
    if any(len(row) > 6 for row in beside.values()):
        return False
    for a, sign in hands:
        if not integer(a, 0, many - 1) or type(sign) is not int or sign not in (1, -1) or len(beside[a]) not in (3, 4):
            return False
    for a, b, sign in sides:
        if not integer(a, 0, many - 1) or not integer(b, 0, many - 1) or type(sign) is not int or sign not in (1, -1):
            return False
        if (a, b, 2) not in ties or len(beside[a]) not in (2, 3) or len(beside[b]) not in (2, 3):
            return False
    for rows, size in ((hands, 1), (sides, 2)):
        if len({row[:size] for row in rows}) < len(rows) or sorted(rows) != rows:
            return False
    return True


class Parts(unittest.TestCase):
    def test_parts(self):
        for value in (("a", 0), ("z", -9), ("abcd", 9), ("hand", 1), ("zzzz", -1)):
            self.assertIs(is_part(value), True)

    def test_no_parts(self):
        for value in (
            ("a", 10), ("a", -10), ("", 0), ("abcde", 0), ("A", 0), ("a1", 0), ("a ", 0), ("a", True), ("a", False),
            ("a", None), ("a", "0"), ("a", 1.0), ["a", 0], ("a",), ("a", 0, 0), (0, "a"), (b"a", 0), (["a"], 0),
            (("a",), 0), (None, 0), "a", ("`", 0), ("{", 0), ("a\n", 0),
        ):
            self.assertIs(is_part(value), False, value)

    def test_any_value(self):
        for value in ANY_VALUES:
            self.assertIs(is_part(value), False)
            self.assertIs(is_part((value, 0)), value in ("a", "k"))
            self.assertIs(is_part(("a", value)), type(value) is int and value == -1)


class Webs(unittest.TestCase):
    def test_empty(self):
        self.assertIs(is_web(([], [], [], [])), True)
        for value in ([[], [], [], []], ([], [], []), ([], [], [], [], []), ((), [], [], []), ([], (), [], []),
                      ([], [], (), []), ([], [], [], ()), ([], [], [], None)):
            self.assertIs(is_web(value), False)

    def test_bounds(self):
        self.assertIs(is_web(([K] * 24, [], [], [])), True)
        self.assertIs(is_web(([K] * 25, [], [], [])), False)
        self.assertIs(is_web(dense(48)), True)
        more = dense(48)
        self.assertIs(is_web((more[0], sorted(more[1] + [(5, 20, 1)]), [], [])), False)
        self.assertIs(is_web(star(6)), True)
        self.assertIs(is_web(star(7)), False)
        for mark, right in ((-9, True), (9, True), (-10, False), (10, False)):
            self.assertIs(is_web(([("k", mark)], [], [], [])), right)
        for order, right in ((0, False), (1, True), (4, True), (5, False), (True, False), (-1, False)):
            self.assertIs(is_web(([K, K], [(0, 1, order)], [], [])), right)

    def test_ties(self):
        for ties in ([(1, 0, 1)], [(0, 0, 1)], [(0, 3, 1)], [(-1, 0, 1)], [[0, 1, 1]], [(0, 1)], [(0, 1, 1, 1)],
                     [(0, 1, 1), (0, 1, 2)], [(0, 1, 1), (0, 1, 1)], [(0, 2, 1), (0, 1, 1)], [(False, 1, 1)],
                     [(0, True, 1)], [(0, 1, "1")], [None], [()], [(0, None, 1)]):
            self.assertIs(is_web(([K, K, K], ties, [], [])), False, ties)

    def test_hands(self):
        for many in range(7):
            web = star(many)
            for sign in (1, -1):
                self.assertIs(is_web((web[0], web[1], [(0, sign)], [])), many in (3, 4))
        web = star(3)
        for hands in ([(0, 0)], [(0, 2)], [(0, True)], [(False, 1)], [[0, 1]], [(0,)], [(0, 1, 1)], [(0, 1), (0, 1)],
                      [(0, 1), (0, -1)], [(0, -1), (0, 1)], [(1, 1)], [(4, 1)], [(-1, 1)], [None], [("0", 1)]):
            self.assertIs(is_web((web[0], web[1], hands, [])), False, hands)
        two = ([K] * 6, [(0, 1, 1), (0, 2, 1), (0, 3, 1), (1, 4, 1), (1, 5, 1)], [(0, 1), (1, -1)], [])
        self.assertIs(is_web(two), True)
        self.assertIs(is_web((two[0], two[1], two[2][::-1], [])), False)

    def test_sides(self):
        for first in range(4):
            for second in range(4):
                for order in (1, 2, 3):
                    web = double(first, second, order)
                    right = order == 2 and first in (1, 2) and second in (1, 2)
                    self.assertIs(is_web((web[0], web[1], [], [(0, 1, -1)])), right)
                    self.assertIs(can_bear_sides(web, 0, 1), right)
                    self.assertIs(can_bear_sides(web, 1, 0), right)
        web = double(2, 1)
        for sides in ([(1, 0, 1)], [(0, 1, 0)], [(0, 1, True)], [(False, 1, 1)], [(0, True, 1)], [[0, 1, 1]],
                      [(0, 1)], [(0, 1, 1), (0, 1, 1)], [(0, 1, -1), (0, 1, 1)], [(0, 2, 1)], [(0, 9, 1)], [None], [(0, 0, 1)]):
            self.assertIs(is_web((web[0], web[1], [], sides)), False, sides)

    def test_ring_of_three(self):
        ring = ([K] * 3, [(0, 1, 2), (0, 2, 1), (1, 2, 2)], [], [(0, 1, 1), (1, 2, -1)])
        self.assertIs(is_web(ring), True)
        self.assertEqual(further(ring, 0, 1), [2])
        self.assertEqual(further(ring, 1, 0), [2])
        self.assertEqual(side_at(ring, 0, 1, 2, 2), 1)
        self.assertEqual(side_at(ring, 2, 1, 0, 0), -1)
        self.assertIs(is_web((ring[0], ring[1], [], [(0, 2, 1)])), False)

    def test_some_webs_and_changed_ones(self):
        for web in some_webs(2):
            self.assertIs(is_web(web), True)
            self.assertTrue(plain_is_web(web))
        right = 0
        for web in some_webs(3, 16, 6):
            for value in changed_once(web):
                self.assertIs(is_web(value), plain_is_web(value), value)
                right += is_web(value)
        self.assertGreater(right, 100)

    def test_any_value(self):
        for value in ANY_VALUES:
            self.assertIs(is_web(value), False)
            for web in (([value], [], [], []), ([K, K], [value], [], []), ([K, K], [(0, 1, value)], [], []),
                        (star(3)[0], star(3)[1], [value], []), (star(3)[0], star(3)[1], [(0, value)], []),
                        (double(1, 1)[0], double(1, 1)[1], [], [value]), (value, value, value, value)):
                self.assertIs(is_web(web), plain_is_web(web), value)


class Told(unittest.TestCase):
    def test_ties_told(self):
        for web in some_webs(4):
            beside = near(web)
            orders = {tie[:2]: tie[2] for tie in web[1]}
            sided = {side[:2] for side in web[3]}
            for a in range(len(web[0])):
                self.assertEqual(neighbours(web, a), beside[a])
                self.assertIs(can_bear_hand(web, a), len(beside[a]) in (3, 4))
                self.assertIs(has_hand(web, a), a in [hand[0] for hand in web[2]])
                expected = []
                for b in beside[a]:
                    ends = (min(a, b), max(a, b))
                    expected.append((b, orders[ends], 1 if ends in sided else 0))
                    self.assertEqual(further(web, a, b), [x for x in beside[a] if x != b])
                self.assertTrue(same_kinds(ties_of(web, a), expected))
                for b in range(len(web[0])):
                    if a != b:
                        ends = (min(a, b), max(a, b))
                        self.assertEqual(tie_order(web, a, b), orders.get(ends, 0))
                        self.assertIs(has_sides(web, a, b), ends in sided)
                        bears = orders.get(ends) == 2 and len(beside[a]) in (2, 3) and len(beside[b]) in (2, 3)
                        self.assertIs(can_bear_sides(web, a, b), bears)

    def test_hand_at_each_sequence(self):
        seen = set()
        for web in some_webs(5):
            signs = dict(web[2])
            for part, beside in near(web).items():
                if len(beside) in (3, 4):
                    seen.add((len(beside), signs.get(part, 0)))
                    for sequence in permutations(beside):
                        expected = signs.get(part, 0) * sign_of_sequence(sequence)
                        self.assertEqual(hand_at(web, part, list(sequence)), expected)
        self.assertEqual(len(seen), 6)

    def test_side_at_each_pair(self):
        seen = set()
        for web in some_webs(6, 80):
            beside = near(web)
            signs = {side[:2]: side[2] for side in web[3]}
            for a, b, _ in web[1]:
                first, second = [x for x in beside[a] if x != b], [y for y in beside[b] if y != a]
                for i, x in enumerate(first):
                    for j, y in enumerate(second):
                        expected = signs.get((a, b), 0) * (-1) ** (i + j)
                        self.assertEqual(side_at(web, a, b, x, y), expected)
                        self.assertEqual(side_at(web, b, a, y, x), expected)
                        if (a, b) in signs:
                            seen.add((i, j, signs[(a, b)]))
        self.assertEqual(len(seen), 8)


if __name__ == "__main__":
    unittest.main()
