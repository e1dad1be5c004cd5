"""webnames.numberings: renumbering [7], numberings [14], signs [15], exchanges [16], what is carried [17]."""

import random
import unittest
from itertools import permutations

from tests.helper import (
    ANY_VALUES, NOT_COUNTS, all_of, bearing_ties, changed_once, near, plain_is_numbering, same_kinds, sign_of_sequence,
    some_numbering, some_webs,
)
from webnames.errors import InvalidMany
from webnames.numberings import (
    back, carried, exchanges, is_numbering, is_pairing, renumbered, rounds, sign_by_pairs, sign_of, straight, then,
)
from webnames.webs import hand_at, has_hand, has_sides, is_web, made, side_at, tie_order


class Numberings(unittest.TestCase):
    def test_is_numbering(self):
        self.assertIs(is_numbering([], 0), True)
        self.assertIs(is_numbering([1, 0, 2], 3), True)
        self.assertIs(is_numbering(list(reversed(range(24))), 24), True)
        for value in ([0, 1], [0, 1, 2, 3], [0, 0, 1], [0, 1, 3], [0, 1, -1], (0, 1, 2), [0, True, 2], [False, 1, 2],
                      [0, 1, None], [0, 1, "2"], [0, 1, [2]], [0, 1, 2.0], None, 3, "012"):
            self.assertIs(is_numbering(value, 3), False)
        for value in ANY_VALUES:
            self.assertIs(is_numbering(value, 0), isinstance(value, list) and value == [])
            self.assertIs(is_numbering(value, 5), False)
            self.assertIs(is_numbering([0, value], 2), False)
        for value in changed_once([2, 0, 1]):
            self.assertIs(is_numbering(value, 3), plain_is_numbering(value, 3))

    def test_many(self):
        for many in NOT_COUNTS + [25, 10 ** 29]:
            for asked in (lambda: is_numbering([], many), lambda: straight(many)):
                with self.assertRaises(InvalidMany) as caught:
                    asked()
                self.assertTrue(same_kinds(caught.exception.value, many) or caught.exception.value is many)

    def test_straight_then_back(self):
        rng = random.Random(9)
        for many in range(25):
            self.assertEqual(straight(many), list(range(many)))
            p, q = some_numbering(rng, many), some_numbering(rng, many)
            self.assertEqual(then(p, back(p)), straight(many))
            self.assertEqual(then(back(p), p), straight(many))
            for i in range(many):
                self.assertEqual(then(p, q)[i], q[p[i]])
                self.assertEqual(back(p)[p[i]], i)

    def test_signs(self):
        rng = random.Random(10)
        for row in all_of(5) + [[]]:
            self.assertEqual(sign_of(row), sign_of_sequence(row))
            self.assertEqual(sign_by_pairs(row), sign_of_sequence(row))
        for many in range(25):
            numbers = [rng.choice([1, -1]) * (k * 10 ** rng.randrange(1, 25) + k) for k in range(1, many + 1)]
            numbers = sorted(set(numbers))
            rng.shuffle(numbers)
            self.assertEqual(sign_of(numbers), sign_of_sequence(numbers))
            self.assertEqual(sign_by_pairs(numbers), sign_of_sequence(numbers))
            p, q = some_numbering(rng, many), some_numbering(rng, many)
            self.assertEqual(sign_of(then(p, q)), sign_of(p) * sign_of(q))
        self.assertEqual((sign_of([3, -7]), sign_by_pairs([3, -7])), (-1, -1))
        self.assertEqual((sign_of(list(range(600))), sign_by_pairs(list(range(600)))), (1, 1))

    def test_rounds(self):
        self.assertEqual(rounds([]), [])
        self.assertEqual(rounds([2, 1, 4, 5, 0, 3]), [[0, 2, 4], [1], [3, 5]])
        rng = random.Random(11)
        for many in range(25):
            p = some_numbering(rng, many)
            found = rounds(p)
            self.assertEqual(sorted(part for row in found for part in row), list(range(many)))
            self.assertEqual(found, sorted(found))
            for row in found:
                self.assertEqual(row[0], min(row))
                for k, part in enumerate(row):
                    self.assertEqual(p[row[k - 1]], part)

    def test_exchanges(self):
        self.assertEqual(exchanges([]), [])
        self.assertEqual(exchanges([2, 1, 0]), [0, 1, 0])
        self.assertEqual(exchanges([0, 1, 2]), [])
        self.assertEqual(len(exchanges(list(reversed(range(24))))), 276)
        rng = random.Random(12)
        for p in all_of(4) + [some_numbering(rng, many) for many in range(25)]:
            noted = []
            row = list(p)
            while row != sorted(row):
                k = min(k for k in range(len(row) - 1) if row[k] > row[k + 1])
                noted.append(k)
                row[k], row[k + 1] = row[k + 1], row[k]
            self.assertEqual(exchanges(p), noted)
            pairs = [1 for b in range(len(p)) for a in range(b) if p[a] > p[b]]
            self.assertEqual(len(noted), len(pairs))
            done = straight(len(p))
            for k in noted:
                step = straight(len(p))
                step[k], step[k + 1] = k + 1, k
                done = then(done, step)
            self.assertEqual(done, p)


class Renumbered(unittest.TestCase):
    def check_meaning(self, web, p, other):
        """Whether the other web says of p[a] what the web says of a."""
        many = len(web[0])
        self.assertIs(is_web(other), True)
        self.assertEqual([other[0][p[a]] for a in range(many)], web[0])
        for rows, far in zip(web[1:], other[1:]):
            self.assertEqual(len(rows), len(far))
        for a in range(many):
            for b in range(a):
                self.assertEqual(tie_order(other, p[a], p[b]), tie_order(web, a, b))
        beside = near(web)
        for a in range(many):
            self.assertEqual(has_hand(other, p[a]), has_hand(web, a))
            if has_hand(web, a):
                for row in permutations(beside[a]):
                    self.assertEqual(hand_at(other, p[a], [p[x] for x in row]), hand_at(web, a, list(row)))
        for a, b in bearing_ties(web):
            self.assertEqual(has_sides(other, p[a], p[b]), has_sides(web, a, b))
            for x in beside[a]:
                for y in beside[b]:
                    if x != b and y != a:
                        self.assertEqual(side_at(other, p[a], p[b], p[x], p[y]), side_at(web, a, b, x, y))

    def test_meaning(self):
        rng = random.Random(13)
        for web in some_webs(14, 60):
            for p in [straight(len(web[0])), some_numbering(rng, len(web[0])), some_numbering(rng, len(web[0]))]:
                self.check_meaning(web, p, renumbered(web, p))

    def test_facts(self):
        rng = random.Random(15)
        for web in some_webs(16, 60):
            many = len(web[0])
            p, q = some_numbering(rng, many), some_numbering(rng, many)
            self.assertEqual(renumbered(renumbered(web, p), q), renumbered(web, then(p, q)))
            self.assertEqual(renumbered(web, straight(many)), web)
            self.assertEqual(renumbered(renumbered(web, p), back(p)), web)
            self.assertEqual(made(*carried(web, p)), renumbered(web, p))

    def test_carried_in_the_web_s_sequences(self):
        rng = random.Random(17)
        for web in some_webs(18):
            many = len(web[0])
            p = some_numbering(rng, many)
            beside = near(web)
            sides = []
            for a, b, sign in web[3]:
                x = min(x for x in beside[a] if x != b)
                y = min(y for y in beside[b] if y != a)
                sides.append((p[a], p[b], p[x], p[y], sign))
            expected = (
                [web[0][back(p)[k]] for k in range(many)],
                [(p[a], p[b], order) for a, b, order in web[1]],
                [(p[a], [p[x] for x in beside[a]], sign) for a, sign in web[2]],
                sides,
            )
            self.assertTrue(same_kinds(carried(web, p), expected))

    def test_signs_of_a_turned_hand_and_side(self):
        k = ("k", 0)
        star = ([k] * 4, [(0, 1, 1), (0, 2, 1), (0, 3, 1)], [(0, 1)], [])
        self.assertEqual(renumbered(star, [0, 2, 1, 3])[2], [(0, -1)])
        self.assertEqual(renumbered(star, [0, 2, 3, 1])[2], [(0, 1)])
        six = ([k] * 6, [(0, 1, 2), (0, 2, 1), (0, 3, 1), (1, 4, 1), (1, 5, 1)], [], [(0, 1, 1)])
        self.assertEqual(renumbered(six, [0, 1, 3, 2, 4, 5])[3], [(0, 1, -1)])
        self.assertEqual(renumbered(six, [0, 1, 3, 2, 5, 4])[3], [(0, 1, 1)])
        self.assertEqual(renumbered(six, [5, 4, 3, 2, 1, 0])[3], [(4, 5, 1)])


class Pairings(unittest.TestCase):
    def test_pairings(self):
        rng = random.Random(19)
        for web in some_webs(20, 60, 12):
            p = some_numbering(rng, len(web[0]))
            other = renumbered(web, p)
            self.assertIs(is_pairing(web, other, p), True)
            self.assertIs(is_pairing(other, web, back(p)), True)
            for value in changed_once(p) + ANY_VALUES:
                expected = plain_is_numbering(value, len(web[0])) and renumbered(web, value) == other
                self.assertIs(is_pairing(web, other, value), expected, value)

    def test_what_is_no_pairing(self):
        k = ("k", 0)
        row = ([k, k, ("a", 0)], [(0, 1, 1), (1, 2, 1)], [], [])
        self.assertIs(is_pairing(row, row, [2, 1, 0]), False)
        self.assertIs(is_pairing(row, ([k, k], [(0, 1, 1)], [], []), [0, 1]), False)
        self.assertIs(is_pairing(([k, k], [(0, 1, 1)], [], []), row, [0, 1]), False)
        self.assertIs(is_pairing(([k, k], [(0, 1, 1)], [], []), row, [0, 1, 2]), False)
        two = ([k, k], [(0, 1, 1)], [], [])
        self.assertIs(is_pairing(two, two, [1, 0]), True)
        self.assertIs(is_pairing(two, two, [True, False]), False)
        star = ([k] * 4, [(0, 1, 1), (0, 2, 1), (0, 3, 1)], [(0, 1)], [])
        self.assertEqual([is_pairing(star, star, [0] + p) for p in ([1, 2, 3], [2, 3, 1], [2, 1, 3])],
                         [True, True, False])


if __name__ == "__main__":
    unittest.main()
