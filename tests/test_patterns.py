"""webnames.patterns: patterns [121], matches [122], candidates and narrowed tables [123]."""

import random
import unittest
from itertools import permutations

from tests import plain
from tests.helper import ANY_VALUES, changed_once, near, same_kinds, some_numbering, some_web, some_webs
from webnames.errors import TooMany
from webnames.numberings import is_pairing, renumbered
from webnames.patterns import (
    candidates, do_fit, is_match, is_pattern, loosened, narrowed, pattern_of, renumbered_pattern,
)
from webnames.pieces import piece_web
from webnames.webs import further, hand_at, neighbours, side_at, tie_order

K = plain.K


def plain_is_pattern(value):
    """Whether any value is a pattern, by the words of [121]."""
    if type(value) is not tuple or len(value) != 4 or any(type(rows) is not list for rows in value):
        return False
    rows, ties, hands, sides = value

    def is_int(x, low, high):
        return type(x) is int and low <= x <= high

    def is_rising_tuple(x, least, fits):
        return type(x) is tuple and least <= len(x) <= 4 and all(fits(y) for y in x) and list(x) == sorted(set(x))

    def is_kind(x):
        return type(x) is str and 1 <= len(x) <= 4 and all(y in "abcdefghijklmnopqrstuvwxyz" for y in x)

    for row in rows:
        if type(row) is not tuple or len(row) != 2 or not is_rising_tuple(row[0], 0, is_kind):
            return False
        if row[1] is not None and not is_int(row[1], -9, 9):
            return False
    many = len(rows)
    for tie in ties:
        if type(tie) is not tuple or len(tie) != 3 or not is_int(tie[0], 0, many - 1) or not is_int(tie[1], 0, many - 1):
            return False
        if tie[0] >= tie[1] or not is_rising_tuple(tie[2], 1, lambda x: is_int(x, 1, 4)):
            return False
    told = {tie[:2]: tie[2] for tie in ties}
    beside = {a: [x + y - a for x, y in told if a in (x, y)] for a in range(many)}
    if many > 8 or [tie[:2] for tie in ties] != sorted(told) or any(len(row) > 6 for row in beside.values()):
        return False
    for hand in hands:
        if type(hand) is not tuple or len(hand) != 2 or not is_int(hand[0], 0, many - 1):
            return False
        if len(beside[hand[0]]) not in (3, 4) or type(hand[1]) is not int or hand[1] not in (1, -1):
            return False
    for side in sides:
        if type(side) is not tuple or len(side) != 3 or not is_int(side[0], 0, many) or not is_int(side[1], 0, many):
            return False
        if side[:2] not in told or 2 not in told[side[:2]] or type(side[2]) is not int or side[2] not in (1, -1):
            return False
        if any(len(beside[a]) - 1 not in (1, 2) for a in side[:2]):
            return False
    return [x[0] for x in hands] == sorted({x[0] for x in hands}) and [x[:2] for x in sides] == sorted({x[:2] for x in sides})


def some_pattern(rng, many, ties=8, kinds=("a", "b", "zz"), tight=False):
    """A pattern of so many places, with at most so many ties."""
    web = some_web(rng, many, ties, kinds)
    rows = []
    for kind, mark in web[0]:
        others = sorted(set([kind] + rng.sample(list(kinds), rng.randrange(len(kinds)))))
        rows.append((tuple(others) if tight or rng.random() < 0.5 else (), mark if rng.random() < 0.3 else None))
    told = []
    for a, b, order in web[1]:
        orders = sorted(set([order] + rng.sample([1, 2, 3, 4], rng.randrange(4))))
        told.append((a, b, tuple(orders)))
    hands = [hand for hand in web[2] if rng.random() < 0.5]
    return (rows, told, hands, [side for side in web[3] if rng.random() < 0.6])


def pattern_in(rng, web, many):
    """A pattern of some parts of the web, tied ones ahead of others, renumbered: mostly one with a match."""
    beside = near(web)
    parts = [rng.randrange(len(web[0]))] if web[0] else []
    while len(parts) < min(many, len(web[0])):
        tied = [x for part in parts for x in beside[part] if x not in parts]
        parts.append(rng.choice(tied or [x for x in range(len(web[0])) if x not in parts]))
    parts = sorted(parts)
    told = pattern_of(piece_web(web, parts))
    # Some ties are left out, and what rests on them.
    ties = [tie for tie in told[1] if rng.random() < 0.85]
    if len(ties) < len(told[1]):
        told = (told[0], ties, [], [])
    rows = [(() if rng.random() < 0.4 else row[0], None if rng.random() < 0.5 else row[1]) for row in told[0]]
    ties = [(a, b, tuple(sorted({*orders, rng.randrange(1, 5)}))) for a, b, orders in told[1]]
    return renumbered_pattern((rows, ties, told[2], told[3]), some_numbering(rng, len(rows)))


def pattern_pairs(seed, many=60, most=12, places=4):
    """Pairs of a pattern and a web."""
    rng = random.Random(seed)
    found = []
    for web in some_webs(seed, many, most) + plain.SHAPES:
        found.append((pattern_in(rng, web, rng.randrange(places + 1)), web))
        found.append((some_pattern(rng, rng.randrange(places + 1), 4, ("a", "b", "k", "zz")), web))
    return found


def plain_is_match(pattern, web, value):
    """Whether a list of parts is a match, by the words of [122]."""
    rows, ties, hands, sides = pattern
    if type(value) is not list or len(value) != len(rows) or not all(type(x) is int for x in value):
        return False
    if len(set(value)) < len(value) or not all(0 <= x < len(web[0]) for x in value):
        return False
    for (kinds, mark), x in zip(rows, value):
        if (kinds and web[0][x][0] not in kinds) or (mark is not None and web[0][x][1] != mark):
            return False
    if not all(tie_order(web, value[a], value[b]) in orders for a, b, orders in ties):
        return False
    for a, sign in hands:
        beside = neighbours(pattern, a)
        if len(beside) != len(neighbours(web, value[a])) or hand_at(web, value[a], [value[x] for x in beside]) != sign:
            return False
    for a, b, sign in sides:
        x, y = further(pattern, a, b)[0], further(pattern, b, a)[0]
        if side_at(web, value[a], value[b], value[x], value[y]) != sign:
            return False
    return True


def plain_matches(pattern, web):
    return [list(row) for row in permutations(range(len(web[0])), len(pattern[0])) if plain_is_match(pattern, web, list(row))]


def plain_candidates(pattern, web):
    beside, far = near(pattern), near(web)
    table = []
    for place, (kinds, mark) in enumerate(pattern[0]):
        handed = any(hand[0] == place for hand in pattern[2])
        row = []
        for part, (kind, own) in enumerate(web[0]):
            right = (kinds == () or kind in kinds) and mark in (None, own) and len(far[part]) >= len(beside[place])
            if handed and (len(far[part]) != len(beside[place]) or not any(hand[0] == part for hand in web[2])):
                right = False
            if right:
                row.append(part)
        table.append(row)
    return table


def plain_fit(pattern, web, a, x, b, y):
    told = [orders for c, d, orders in pattern[1] if {c, d} == {a, b}]
    return x != y and (not told or any({x, y} == {c, d} and order in told[0] for c, d, order in web[1]))


def plain_narrowed(rng, pattern, web, table):
    """The table, narrowed, what goes chosen anyhow."""
    table = [list(row) for row in table]
    while True:
        going = []
        for a in range(len(table)):
            for b in range(len(table)):
                for x in table[a]:
                    if a != b and not any(plain_fit(pattern, web, a, x, b, y) for y in table[b]):
                        going.append((a, x))
        if not going:
            return table
        a, x = rng.choice(going)
        table[a].remove(x)


class Patterns(unittest.TestCase):
    def test_right_ones(self):
        rng = random.Random(430)
        for many in list(range(9)) * 12:
            self.assertIs(is_pattern(some_pattern(rng, many, rng.choice([4, 8, 20]))), True)
        for web in some_webs(431, 40, 8):
            self.assertIs(is_pattern(pattern_of(web)), True)

    def test_changed_in_one_thing(self):
        rng = random.Random(432)
        answers = []
        for many in list(range(9)) * 5:
            pattern = some_pattern(rng, many, rng.choice([4, 9]))
            changed = changed_once(pattern)
            for value in rng.sample(changed, min(len(changed), 120)):
                expected = plain_is_pattern(value)
                self.assertIs(is_pattern(value), expected, value)
                answers.append(expected)
        self.assertGreater(answers.count(True), 100)

    def test_edges(self):
        row, tie = ((), None), (0, 1, (1,))
        right = [
            ([], [], [], []), ([row] * 8, [], [], []), ([(("a", "b", "c", "d"), -9)], [], [], []), ([(("abcd",), 9)], [], [], []),
            ([row] * 2, [(0, 1, (1, 2, 3, 4))], [], []), ([row] * 7, [(0, k, (4,)) for k in range(1, 7)], [], []),
            ([row] * 4, [(0, 1, (1,)), (1, 2, (1, 2)), (2, 3, (1,))], [], [(1, 2, -1)]),
            ([row] * 4, [(0, 1, (1,)), (0, 2, (1,)), (0, 3, (1,))], [(0, 1)], []),
            ([row] * 5, [(0, k, (2,)) for k in range(1, 5)], [(0, -1)], []),
            ([row] * 3, [(0, 1, (2,)), (0, 2, (2,)), (1, 2, (2,))], [], [(0, 1, 1), (0, 2, 1), (1, 2, 1)]),
        ]
        wrong = [
            ([row] * 9, [], [], []), ([((), 10)], [], [], []), ([((), True)], [], [], []), ([((), 0.0)], [], [], []),
            ([(("a", "a"), 0)], [], [], []), ([(("b", "a"), 0)], [], [], []), ([(["a"], 0)], [], [], []),
            ([(("a", "b", "c", "d", "e"), 0)], [], [], []), ([(("abcde",), 0)], [], [], []), ([(("A",), 0)], [], [], []),
            ([("a", 0)], [], [], []), ([(None, 0)], [], [], []), ([((), None, 0)], [], [], []), ([[(), None]], [], [], []),
            ([row] * 2, [(0, 1, ())], [], []), ([row] * 2, [(0, 1, (2, 1))], [], []), ([row] * 2, [(0, 1, (1, 1))], [], []),
            ([row] * 2, [(0, 1, (0,))], [], []), ([row] * 2, [(0, 1, (5,))], [], []), ([row] * 2, [(0, 1, [1])], [], []),
            ([row] * 2, [(0, 1, 1)], [], []), ([row] * 2, [(0, 1, (True,))], [], []), ([row] * 2, [(1, 0, (1,))], [], []),
            ([row] * 2, [(0, 0, (1,))], [], []), ([row] * 2, [(0, 2, (1,))], [], []), ([row] * 2, [tie, tie], [], []),
            ([row] * 2, [tie, (0, 1, (2,))], [], []), ([row] * 3, [(0, 2, (1,)), tie], [], []),
            ([row] * 8, [(0, k, (4,)) for k in range(1, 8)], [], []), ([row] * 2, [(False, 1, (1,))], [], []),
            ([row] * 4, [(0, 1, (1,)), (0, 2, (1,))], [(0, 1)], []), ([row] * 6, [(0, k, (1,)) for k in range(1, 6)], [(0, 1)], []),
            ([row] * 4, [(0, 1, (1,)), (0, 2, (1,)), (0, 3, (1,))], [(0, 1), (0, 1)], []),
            ([row] * 4, [(0, 1, (1,)), (0, 2, (1,)), (0, 3, (1,))], [(0, 0)], []),
            ([row] * 4, [(0, 1, (1,)), (0, 2, (1,)), (0, 3, (1,))], [(0, True)], []),
            ([row] * 4, [(0, 1, (1,)), (1, 2, (1, 3)), (2, 3, (1,))], [], [(1, 2, -1)]),
            ([row] * 4, [(0, 1, (1,)), (1, 2, (2,)), (2, 3, (1,))], [], [(2, 1, -1)]),
            ([row] * 4, [(0, 1, (2,)), (1, 2, (2,)), (2, 3, (1,))], [], [(0, 1, -1)]),
            ([row] * 4, [(0, 1, (1,)), (1, 2, (2,)), (2, 3, (1,))], [], [(1, 2, -1), (1, 2, 1)]),
            ([row] * 4, [(0, 1, (1,)), (1, 2, (2,)), (2, 3, (1,))], [], [(0, 3, 1)]),
            ([row], [], []), [[row], [], [], []], ((), [], [], []), ([], (), [], []), (None, [], [], []),
        ]
        for value in right:
            self.assertIs(is_pattern(value), True, value)
            self.assertIs(plain_is_pattern(value), True, value)
        for value in wrong + ANY_VALUES:
            self.assertIs(is_pattern(value), False, value)
            self.assertIs(plain_is_pattern(value), False, value)

    def test_patterns_of_webs(self):
        for web in some_webs(433, 40, 8):
            rows, ties, hands, sides = pattern_of(web)
            self.assertTrue(same_kinds(rows, [((kind,), mark) for kind, mark in web[0]]))
            self.assertTrue(same_kinds(ties, [(a, b, (order,)) for a, b, order in web[1]]))
            self.assertTrue(same_kinds((hands, sides), (web[2], web[3])))
            many = len(web[0])
            other = renumbered(web, some_numbering(random.Random(many), many))
            if many <= 5:
                for value in plain.pairings(web, other) + [list(range(many))]:
                    self.assertIs(is_match(pattern_of(web), other, value), is_pairing(web, other, value))
        for web in (plain.alone(9), plain.row(9), plain.cube(), plain.alone(24)):
            if len(web[0]) > 8:
                with self.assertRaises(TooMany) as caught:
                    pattern_of(web)
                self.assertEqual((caught.exception.what, caught.exception.limit), ("parts", 8))
            else:
                pattern_of(web)

    def test_loosened(self):
        rng = random.Random(434)
        words = ("kinds", "marks", "orders", "senses")
        for many in list(range(9)) * 3:
            pattern = some_pattern(rng, many)
            for number in range(16):
                told = {word: bool(number >> k & 1) for k, word in enumerate(words)}
                rows = [(() if told["kinds"] else row[0], None if told["marks"] else row[1]) for row in pattern[0]]
                ties = [(a, b, (1, 2, 3, 4) if told["orders"] else orders) for a, b, orders in pattern[1]]
                hands, sides = ([], []) if told["senses"] else (pattern[2], pattern[3])
                self.assertTrue(same_kinds(loosened(pattern, **told), (rows, ties, hands, sides)))
                self.assertIs(is_pattern(loosened(pattern, **told)), True)
                only = {word: True for word in words if told[word]}
                self.assertTrue(same_kinds(loosened(pattern=pattern, **only), (rows, ties, hands, sides)))
            self.assertTrue(same_kinds(loosened(pattern), pattern))
            with self.assertRaises(TypeError):
                loosened(pattern, True)


class Matches(unittest.TestCase):
    def test_all_lists(self):
        rng = random.Random(435)
        found = []
        for pattern, web in pattern_pairs(436, 60, 8, 4):
            lists = [list(row) for row in permutations(range(len(web[0])), len(pattern[0]))]
            for value in rng.sample(lists, min(len(lists), 60)) + plain_matches(pattern, web)[:20]:
                expected = plain_is_match(pattern, web, value)
                self.assertIs(is_match(pattern, web, value), expected)
                found.append(expected)
        self.assertGreater(found.count(True), 200)
        self.assertGreater(found.count(False), 200)

    def test_senses(self):
        star, double = plain.star(3, 1, ("a", 0)), plain.double()
        pattern = pattern_of(star)
        for row in permutations((1, 2, 3)):
            for sign in (1, -1):
                web = (star[0], star[1], [(0, sign)], [])
                even = list(row) in ([1, 2, 3], [2, 3, 1], [3, 1, 2])
                self.assertIs(is_match(pattern, web, [0, *row]), even == (sign == 1))
        # Without a hand, or with more ties, there is no match.
        self.assertIs(is_match(pattern, plain.star(3, outer=("a", 0)), [0, 1, 2, 3]), False)
        more = plain.star(4, 1, ("a", 0))
        for row in permutations((1, 2, 3, 4), 3):
            self.assertIs(is_match(pattern, more, [0, *row]), False)
            self.assertIs(is_match(loosened(pattern, senses=True), more, [0, *row]), True)
        # Both senses of sides; further ties do not matter for them.
        short = ([((), None)] * 4, [(0, 1, (1,)), (1, 2, (1, 2)), (2, 3, (1,))], [], [(1, 2, 1)])
        for sign in (1, -1):
            web = (double[0], double[1], [], [(0, 1, sign)])
            expected = {(2, 4): sign, (2, 5): -sign, (3, 4): -sign, (3, 5): sign}
            for (x, y), told in expected.items():
                self.assertIs(is_match(short, web, [x, 0, 1, y]), told == 1)
                self.assertIs(is_match(short, web, [y, 1, 0, x]), told == 1)
                self.assertIs(is_match(loosened(short, senses=True), web, [x, 0, 1, y]), True)
        self.assertIs(is_match(short, (double[0], double[1], [], []), [2, 0, 1, 4]), False)

    def test_renumbered(self):
        rng = random.Random(437)
        for pattern, web in pattern_pairs(438, 40, 8, 4):
            p, q = some_numbering(rng, len(web[0])), some_numbering(rng, len(pattern[0]))
            far, turned = renumbered(web, p), renumbered_pattern(pattern, q)
            self.assertIs(is_pattern(turned), True)
            expected = plain_matches(pattern, web)[:15]
            lists = [list(row) for row in permutations(range(len(web[0])), len(pattern[0]))]
            for value in expected + rng.sample(lists, min(len(lists), 10)):
                right = is_match(pattern, web, value)
                self.assertIs(is_match(pattern, far, [p[x] for x in value]), right)
                self.assertIs(is_match(turned, web, [value[q.index(a)] for a in range(len(q))]), right)

    def test_any_values(self):
        pattern, web = pattern_of(plain.row(2)), plain.row(3)
        self.assertIs(is_match(pattern, web, [0, 1]), True)
        for value in ANY_VALUES + [(0, 1), [0], [0, 1, 2], [0, 3], [0, 0], [False, True], [0, True], ["0", 1], [-1, 0], [0, 2]]:
            self.assertIs(is_match(pattern, web, value), False)
        empty = pattern_of(plain.alone(0))
        for value in ANY_VALUES:
            self.assertIs(is_match(empty, web, value), type(value) is list and value == [])


class Tables(unittest.TestCase):
    def test_candidates_and_fits(self):
        rng = random.Random(439)
        for pattern, web in pattern_pairs(440, 60, 12, 8):
            self.assertTrue(same_kinds(candidates(pattern, web), plain_candidates(pattern, web)))
            for _ in range(30):
                if len(pattern[0]) > 1 and web[0]:
                    a, b = rng.sample(range(len(pattern[0])), 2)
                    x, y = rng.randrange(len(web[0])), rng.randrange(len(web[0]))
                    self.assertIs(do_fit(pattern, web, a, x, b, y), plain_fit(pattern, web, a, x, b, y))
                    self.assertIs(do_fit(pattern, web, b, y, a, x), plain_fit(pattern, web, a, x, b, y))
        for web in (plain.star(3, 1), plain.star(4, 1)):
            # With a hand, just as many ties, and a hand; without one, as many or more.
            self.assertEqual(candidates(pattern_of(plain.star(3, 1)), web)[0], [0] if len(web[0]) == 4 else [])
            self.assertEqual(candidates(pattern_of(plain.star(3)), web)[0], [0])
        self.assertEqual(candidates(pattern_of(plain.star(3, 1)), plain.star(3))[0], [])

    def test_narrowed(self):
        rng = random.Random(441)
        changed = 0
        for pattern, web in pattern_pairs(442, 40, 10, 6):
            table = candidates(pattern, web)
            for _ in range(3):
                expected = plain_narrowed(rng, pattern, web, table)
                found = narrowed(pattern, web, table)
                self.assertTrue(same_kinds(found, expected))
                self.assertTrue(same_kinds(narrowed(pattern, web, found), expected))
                changed += found != table
                # Any rows may be handed in.
                table = [sorted(rng.sample(range(len(web[0])), rng.randrange(len(web[0]) + 1))) for _ in pattern[0]]
            for value in plain_matches(pattern, web)[:10] if len(pattern[0]) <= 4 else []:
                self.assertTrue(all(x in row for x, row in zip(value, narrowed(pattern, web, candidates(pattern, web)))))
        self.assertGreater(changed, 30)
        self.assertEqual(narrowed(pattern_of(plain.alone(0)), plain.row(3), []), [])
        self.assertEqual(narrowed(pattern_of(plain.alone(2)), plain.row(3), [[], [0, 1]]), [[], []])
        self.assertEqual(narrowed(pattern_of(plain.alone(2)), plain.row(3), [[0], [0, 1]]), [[0], [1]])


if __name__ == "__main__":
    unittest.main()
