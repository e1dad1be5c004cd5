"""webnames.bounds: classes and candidates [133], bounds [134], apart states [135], sizes and distances [132]."""

import random
import unittest
from itertools import combinations

from tests import plain
from tests.helper import near, same_kinds, some_numbering, some_web
from tests.test_common import plain_all, plain_is_common, some_pairs
from webnames.bounds import (
    class_bound, common_size, distance_between, greatest_common, is_apart, kind_bound, left_candidates, part_class,
)
from webnames.common import is_common
from webnames.errors import TooMany
from webnames.mirrors import bare
from webnames.numberings import renumbered
from webnames.pairings import first_pairing
from webnames.webs import tie_order

K = plain.K


def some_states(seed, many=40, most=7):
    """`(web, other, pairs, many)`: states of drawn webs."""
    rng = random.Random(seed)
    for web, other in some_pairs(seed, many, most):
        for _ in range(6):
            decided = rng.randrange(len(web[0]) + 1)
            pairs = []
            for a in range(decided):
                b = rng.randrange(len(other[0]) + 1)
                if b < len(other[0]) and plain_is_common(web, other, False, pairs + [(a, b)]):
                    pairs.append((a, b))
            yield web, other, pairs, decided


def plain_class(web, parts, part):
    return (web[0][part][0], web[0][part][1], [tie_order(web, part, x) for x in parts])


def left_parts(web, other, pairs, many):
    """The parts left of both webs, with their classes."""
    firsts, seconds = [a for a, _ in pairs], [b for _, b in pairs]
    here = {a: plain_class(web, firsts, a) for a in range(many, len(web[0]))}
    there = {b: plain_class(other, seconds, b) for b in range(len(other[0])) if b not in seconds}
    return here, there


def plain_bound(web, other, pairs, many):
    here, there = left_parts(web, other, pairs, many)
    rest = list(there.values())
    number = len(pairs)
    for told in here.values():
        if told in rest:
            rest.remove(told)
            number += 1
    return number


def plain_is_apart(web, pairs, many):
    beside = near(web)
    firsts = [a for a, _ in pairs]
    meant = set(firsts) | set(range(many, len(web[0])))
    met = set(firsts[:1])
    for _ in meant:
        met |= {x for a in met for x in beside[a] if x in meant}
    return not set(firsts) <= met


def all_behind(web, other, pairs, many):
    """All common lists made from these pairs by further pairs of parts that are left."""
    found = [list(pairs)]
    for a in range(many, len(web[0])):
        longer = []
        for value in found:
            for b in range(len(other[0])):
                if plain_is_common(web, other, False, value + [(a, b)]):
                    longer.append(value + [(a, b)])
        found += longer
    return found


class States(unittest.TestCase):
    def test_against_the_words(self):
        seen = set()
        for web, other, pairs, many in some_states(500):
            here, there = left_parts(web, other, pairs, many)
            firsts, seconds = [a for a, _ in pairs], [b for _, b in pairs]
            for a in here:
                self.assertTrue(same_kinds(part_class(web, firsts, a), here[a]))
            for b in there:
                self.assertTrue(same_kinds(part_class(other, seconds, b), there[b]))
            self.assertEqual(class_bound(web, other, pairs, many), plain_bound(web, other, pairs, many))
            self.assertIs(is_apart(web, pairs, many), plain_is_apart(web, pairs, many))
            seen.add(plain_is_apart(web, pairs, many))
            if many < len(web[0]):
                expected = [b for b in there if there[b] == here[many]]
                self.assertTrue(same_kinds(left_candidates(web, other, pairs, many), expected))
                seen.add(min(len(expected), 2))
            self.assertEqual(kind_bound(web, other), plain_bound(web, other, [], 0))
            self.assertEqual(class_bound(web, other, [], 0), kind_bound(web, other))
        self.assertEqual(seen, {True, False, 0, 1, 2})

    def test_pairs_behind_a_state(self):
        # The FACT of [133]: a pair of parts left gives a common list exactly if both have one class.
        answers = set()
        for web, other, pairs, many in some_states(501):
            here, there = left_parts(web, other, pairs, many)
            for a in here:
                for b in there:
                    one = part_class(web, [x for x, _ in pairs], a) == part_class(other, [y for _, y in pairs], b)
                    self.assertIs(is_common(web, other, False, pairs + [(a, b)]), one)
                    answers.add(one)
        self.assertEqual(answers, {True, False})

    def test_no_common_list_is_greater(self):
        # The FACTS of [134] and [135].
        reached, parted = [], 0
        for web, other, pairs, many in some_states(502, 60, 5):
            bound = class_bound(web, other, pairs, many)
            found = all_behind(web, other, pairs, many)
            greatest = max(len(value) for value in found)
            self.assertLessEqual(greatest, bound)
            reached.append(greatest == bound)
            if is_apart(web, pairs, many):
                parted += 1
                self.assertFalse(any(is_common(web, other, True, value) for value in found))
        self.assertEqual(set(reached), {True, False})
        self.assertGreater(parted, 10)

    def test_told_ones(self):
        web = ([("a", 1), ("a", 1), ("a", 2), ("b", 1)], [(0, 1, 3), (1, 2, 2)], [], [])
        self.assertEqual(part_class(web, [], 0), ("a", 1, []))
        self.assertEqual(part_class(web, [2, 1], 0), ("a", 1, [0, 3]))
        self.assertEqual(part_class(web, [0, 2], 1), ("a", 1, [3, 2]))
        self.assertEqual(kind_bound(web, ([("a", 1), ("a", 2), ("a", 2), ("b", 2)], [], [], [])), 2)
        self.assertEqual((kind_bound(web, plain.alone(0)), kind_bound(plain.alone(24), plain.alone(9))), (0, 9))
        self.assertIs(is_apart(plain.row(3), [], 3), False)
        self.assertIs(is_apart(plain.row(3), [(0, 0), (2, 2)], 3), True)
        # A part that is decided and in no pair joins nothing, one that is left does.
        five = plain.row(5)
        self.assertIs(is_apart(five, [(0, 0), (2, 2)], 3), True)
        self.assertIs(is_apart(plain.ring(5), [(0, 0), (2, 2)], 3), False)
        self.assertIs(is_apart(plain.ring(5), [(0, 0), (2, 2)], 4), True)
        self.assertEqual(left_candidates(plain.row(3), plain.row(3), [(0, 0)], 1), [1])
        self.assertEqual(left_candidates(plain.row(3), plain.row(3), [(0, 1)], 1), [0, 2])
        self.assertEqual(left_candidates(plain.row(3), plain.row(3), [(0, 0)], 2), [2])
        self.assertEqual(class_bound(plain.ring(24), plain.ring(24), [], 20), 4)


class Sizes(unittest.TestCase):
    def test_against_all_common_lists(self):
        sizes = set()
        for web, other in some_pairs(503, 60, 5):
            for joined in (False, True):
                expected = max(len(value) for value in plain_all(web, other, joined))
                found = greatest_common(web, other, joined)
                self.assertIs(plain_is_common(web, other, joined, found), True)
                self.assertEqual((len(found), common_size(web, other, joined)), (expected, expected))
                sizes.add((joined, expected))
        self.assertEqual(sizes, {(joined, size) for joined in (False, True) for size in range(6)})

    def test_8_parts_and_9(self):
        rng = random.Random(504)
        eight = [some_web(rng, 8, ties, ("k",), True, (1,)) for ties in (4, 8, 12, 20)]
        eight = [([K] * 8, *web[1:]) for web in eight] + [plain.alone(8), plain.ring(8), plain.cube(), plain.row(8), plain.ladder(4)]
        for web, other in combinations(eight, 2):
            both = [common_size(web, other, joined) for joined in (False, True)]
            self.assertTrue(both[1] <= both[0])
            for joined in (False, True):
                found = greatest_common(web, other, joined)
                self.assertIs(plain_is_common(web, other, joined, found), True)
                self.assertEqual(len(found), both[joined])
                self.assertEqual(common_size(other, web, joined), both[joined])
        self.assertEqual([common_size(plain.cube(), plain.ring(8), joined) for joined in (False, True)], [5, 5])
        self.assertEqual([common_size(plain.alone(8), plain.ring(8), joined) for joined in (False, True)], [4, 1])
        self.assertEqual(common_size(plain.alone(8), plain.alone(8), False), 8)
        for web, other in ((plain.alone(9), plain.alone(0)), (plain.alone(0), plain.row(9)), (plain.alone(8), plain.alone(24))):
            for call in (lambda: greatest_common(web, other, False), lambda: common_size(web, other, True),
                         lambda: distance_between(web, other)):
                with self.assertRaises(TooMany) as caught:
                    call()
                self.assertEqual((caught.exception.what, caught.exception.limit), ("parts", 8))

    def test_renumbered(self):
        rng = random.Random(505)
        for web, other in some_pairs(506, 30, 7):
            far, there = (renumbered(x, some_numbering(rng, len(x[0]))) for x in (web, other))
            for joined in (False, True):
                self.assertEqual(common_size(far, there, joined), common_size(web, other, joined))

    def test_distances(self):
        # The FACTS of [132].
        rng = random.Random(507)
        answers = set()
        for web, other in some_pairs(508, 40, 6):
            far = distance_between(web, other)
            self.assertEqual(far, len(web[0]) + len(other[0]) - 2 * common_size(web, other, False))
            self.assertEqual(distance_between(other, web), far)
            alike = first_pairing(bare(web), bare(other)) is not None
            self.assertIs(far == 0, alike)
            answers.add(alike)
            third = rng.choice(some_pairs(rng.randrange(1000), 5, 6))[0]
            self.assertLessEqual(distance_between(web, third), far + distance_between(other, third))
        self.assertEqual(answers, {True, False})
        self.assertEqual(distance_between(plain.star(3, 1), plain.star(3, -1)), 0)
        self.assertEqual(distance_between(plain.alone(0), plain.row(8)), 8)
        self.assertEqual(distance_between(plain.alone(0), plain.alone(0)), 0)


if __name__ == "__main__":
    unittest.main()
