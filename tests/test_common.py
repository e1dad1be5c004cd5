"""webnames.common: common lists and joined ones [131], all of them the plain way."""

import random
import unittest
from itertools import combinations, permutations

from tests import plain
from tests.helper import ANY_VALUES, changed_once, near, same_kinds, some_numbering, some_web
from webnames.common import all_common, is_common, is_joined, plain_size
from webnames.errors import TooMany
from webnames.mirrors import bare
from webnames.numberings import back, renumbered
from webnames.webs import tie_order

K = plain.K


def plain_is_joined(web, parts):
    beside = near(web)
    met = set(parts[:1])
    for _ in parts:
        met |= {x for a in met for x in beside[a] if x in parts}
    return met == set(parts)


def plain_is_common(web, other, joined, value):
    """Whether any value is a common list that is meant, by the words of [131]."""
    if type(value) is not list:
        return False
    for pair in value:
        if type(pair) is not tuple or len(pair) != 2 or any(type(x) is not int or x < 0 for x in pair):
            return False
        if pair[0] >= len(web[0]) or pair[1] >= len(other[0]) or web[0][pair[0]] != other[0][pair[1]]:
            return False
    if value != sorted(value) or any(len({pair[k] for pair in value}) < len(value) for k in (0, 1)):
        return False
    for (a, b), (c, d) in combinations(value, 2):
        if tie_order(web, a, c) != tie_order(other, b, d):
            return False
    return not joined or plain_is_joined(web, [pair[0] for pair in value])


def plain_all(web, other, joined):
    found = []
    for many in range(min(len(web[0]), len(other[0])) + 1):
        for firsts in combinations(range(len(web[0])), many):
            for seconds in permutations(range(len(other[0])), many):
                value = list(zip(firsts, seconds))
                if plain_is_common(web, other, joined, value):
                    found.append(value)
    return sorted(found)


def some_pairs(seed, many=40, most=4, orders=(1, 1, 2)):
    """Pairs of webs of few kinds, some with hands and sides, some of them alike."""
    rng = random.Random(seed)
    found = []
    for number in range(many):
        kinds = (("k",), ("k", "c"))[number % 2]
        webs = []
        for _ in range(2):
            web = some_web(rng, rng.randrange(most + 1), rng.randrange(most + 3), kinds, number % 3 > 0, orders)
            webs.append(([(kind, 0) for kind, _ in web[0]], *web[1:]))
        if number % 5 == 0:
            webs[1] = renumbered(webs[0], some_numbering(rng, len(webs[0][0])))
        found.append(tuple(webs))
    return found


class Lists(unittest.TestCase):
    def test_all_lists(self):
        sizes = set()
        for web, other in some_pairs(490, 80):
            for joined in (False, True):
                expected = plain_all(web, other, joined)
                self.assertTrue(same_kinds(all_common(web, other, joined), expected))
                self.assertEqual(plain_size(web, other, joined), max(len(value) for value in expected))
                sizes.add((joined, plain_size(web, other, joined)))
            self.assertTrue(plain_size(web, other, True) <= plain_size(web, other, False))
        self.assertEqual(sizes, {(joined, size) for joined in (False, True) for size in range(5)})

    def test_hands_and_sides_have_no_say(self):
        for web, other in some_pairs(491, 40):
            for joined in (False, True):
                self.assertEqual(all_common(web, other, joined), all_common(bare(web), other, joined))
        star = plain.star(3, 1)
        self.assertEqual(all_common(star, star, True), all_common(star, plain.star(3, -1), True))
        self.assertEqual(plain_size(star, plain.star(3, -1), False), 4)

    def test_the_other_way_round(self):
        for web, other in some_pairs(492, 40):
            for joined in (False, True):
                turned = sorted(sorted((b, a) for a, b in value) for value in all_common(web, other, joined))
                self.assertEqual(all_common(other, web, joined), turned)

    def test_4_parts_and_5(self):
        empty, four = plain.alone(0), plain.alone(4)
        self.assertEqual(len(all_common(four, four, False)), 1 + 16 + 72 + 96 + 24)
        self.assertEqual(len(all_common(four, four, True)), 1 + 16)
        self.assertEqual((all_common(empty, four, True), all_common(empty, empty, False)), ([[]], [[]]))
        self.assertEqual(plain_size(plain.all_tied(4), plain.all_tied(4), True), 4)
        for web, other in ((plain.alone(5), empty), (empty, plain.row(5)), (plain.alone(5), four), (plain.ring(24), plain.ring(24))):
            for joined in (False, True):
                for function in (all_common, plain_size):
                    with self.assertRaises(TooMany) as caught:
                        function(web, other, joined)
                    self.assertEqual((caught.exception.what, caught.exception.limit), ("parts", 4))


class Judged(unittest.TestCase):
    def test_changed_in_one_thing(self):
        rng = random.Random(493)
        answers = []
        for web, other in some_pairs(494, 40):
            for joined in (False, True):
                for value in rng.sample(all_common(web, other, joined), 1) + all_common(web, other, joined)[-1:]:
                    self.assertIs(is_common(web, other, joined, value), True)
                    for changed in changed_once(value):
                        expected = plain_is_common(web, other, joined, changed)
                        self.assertIs(is_common(web, other, joined, changed), expected, changed)
                        answers.append(expected)
        self.assertGreater(answers.count(True), 50)
        self.assertGreater(answers.count(False), 500)

    def test_greater_webs(self):
        rng = random.Random(495)
        for web in (plain.ring(24), plain.ladder(12), plain.PETERSEN, plain.beside(plain.ring(5), plain.ring(6))):
            p = some_numbering(rng, len(web[0]))
            far = renumbered(web, p)
            whole = [(a, p[a]) for a in range(len(p))]
            self.assertIs(is_common(web, far, False, whole), True)
            self.assertIs(is_common(web, far, True, whole), len(web[0]) != 11)
            self.assertIs(is_common(far, web, False, [(a, back(p)[a]) for a in range(len(p))]), True)
            for _ in range(20):
                some = sorted(rng.sample(whole, rng.randrange(len(p))))
                self.assertIs(is_common(web, far, False, some), True)
                self.assertIs(is_common(web, far, True, some), plain_is_joined(web, [a for a, _ in some]))
                if len(some) > 1:
                    (a, b), (c, d) = rng.sample(some, 2)
                    other = sorted([pair for pair in some if pair not in ((a, b), (c, d))] + [(a, d), (c, b)])
                    self.assertIs(is_common(web, far, False, other), plain_is_common(web, far, False, other))

    def test_any_values(self):
        web, other = plain.row(3), plain.row(4)
        for joined in (False, True):
            for value in ANY_VALUES + [((0, 0),), [[0, 0]], [(0, 0, 0)], [(0,)], [(0, 4)], [(3, 0)], [(0, -1)], [(True, 0)],
                                       [(0, False)], [(1, 0), (0, 1)], [(0, 0), (0, 1)], [(0, 0), (1, 0)], [(0, 0), (0, 0)], [None]]:
                expected = type(value) is list and value == []
                self.assertIs(is_common(web, other, joined, value), expected, value)


class Joined(unittest.TestCase):
    def test_joined(self):
        rng = random.Random(496)
        answers = set()
        for web in plain.SHAPES + [some_web(rng, 9, 9, bare=True) for _ in range(20)]:
            for _ in range(10):
                parts = rng.sample(range(len(web[0])), rng.randrange(len(web[0]) + 1))
                expected = plain_is_joined(web, parts)
                self.assertIs(is_joined(web, parts), expected)
                answers.add((len(parts) > 1, expected))
        self.assertEqual(answers, {(False, True), (True, True), (True, False)})
        self.assertIs(is_joined(plain.alone(0), []), True)
        self.assertIs(is_joined(plain.row(3), [0, 2]), False)
        self.assertIs(is_joined(plain.row(3), [2, 0, 1]), True)


if __name__ == "__main__":
    unittest.main()
