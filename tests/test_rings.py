"""webnames.rings: rings and their ties [33], [34], all rings to a length, and the rank [36]."""

import random
import unittest
from itertools import permutations

from tests.helper import ANY_VALUES, NOT_COUNTS, changed_once, some_web, some_webs
from tests.test_pieces import plain_pieces
from tests.test_webs import dense
from webnames.errors import InvalidMany, TooMany
from webnames.pieces import put_together
from webnames.rings import (
    is_ring, is_tie_set, ring_form, ring_of, ring_rank, ring_ties, ring_through, rings_plain, rings_to,
)

K = ("k", 0)

# A web with just 500 rings.
JUST = ([K] * 8, [(a, b, 1) for a, b in [
    (0, 2), (0, 3), (0, 4), (0, 7), (1, 2), (1, 3), (1, 5), (1, 6), (2, 3), (2, 5), (2, 6), (2, 7), (3, 4), (3, 7),
    (4, 5), (4, 6), (4, 7), (5, 6), (6, 7)]], [], [])


def whole(many):
    """The web of so many parts, each tied with each other one."""
    return ([K] * many, [(a, b, 1) for a in range(many) for b in range(a + 1, many)], [], [])


def plain_rings(web):
    """All rings of a small web, out of all sequences of its parts."""
    links = {(a, b) for a, b, _ in web[1]} | {(b, a) for a, b, _ in web[1]}
    found = []
    for length in range(3, len(web[0]) + 1):
        for row in permutations(range(len(web[0])), length):
            if row[0] == min(row) and row[1] < row[-1]:
                if all((row[k - 1], row[k]) in links for k in range(length)):
                    found.append(list(row))
    return sorted(found, key=lambda row: (len(row), row))


def small_webs(seed, many=40):
    rng = random.Random(seed)
    return [some_web(rng, rng.randrange(7), rng.randrange(13)) for _ in range(many)]


class Rings(unittest.TestCase):
    def test_is_ring(self):
        web = whole(5)
        for value in ([0, 1, 2], [0, 2, 4, 3], [1, 2, 3], [0, 1, 2, 3, 4]):
            self.assertIs(is_ring(web, value), True)
        for value in ([], [0], [0, 1], [0, 2, 1], [1, 0, 2], [2, 3, 1], [0, 1, 1], [0, 1, 2, 0], [0, 1, 5],
                      [0, -1, 2], (0, 1, 2), [0, True, 2], [False, 1, 2], [0, 1, None], [0, 1, "2"], None):
            self.assertIs(is_ring(web, value), False)
        square = ([K] * 4, [(0, 1, 1), (0, 3, 1), (1, 2, 1), (2, 3, 1)], [], [])
        self.assertEqual([is_ring(square, row) for row in ([0, 1, 2, 3], [0, 1, 2], [0, 2, 1, 3])], [True, False, False])
        single = ([K] * 6, [(3, 4, 1), (3, 5, 1), (4, 5, 1)], [], [])
        self.assertEqual([is_ring(single, row) for row in ([3, 4, 5], [0, 1, 2], [3, 4, 6])], [True, False, False])
        for value in ANY_VALUES:
            self.assertIs(is_ring(web, value), False)
            self.assertIs(is_ring(web, [0, 1, value]), False)

    def test_rings_changed_once(self):
        for web in small_webs(100, 12):
            rings = plain_rings(web)
            for ring in rings[:3]:
                for value in changed_once(ring):
                    kinds = type(value) is list and all(type(x) is int for x in value)
                    self.assertIs(is_ring(web, value), kinds and value in rings)

    def test_is_tie_set(self):
        self.assertEqual([is_tie_set(whole(4), row) for row in ([5], [4, 5], [6])], [True, True, False])
        web = whole(3)
        for value in ([], [0], [2], [0, 2], [0, 1, 2]):
            self.assertIs(is_tie_set(web, value), True)
        for value in ([3], [-1], [1, 0], [1, 1], (0, 1), [True], [0, True], [False], ["0"], [None], None, [[0]]):
            self.assertIs(is_tie_set(web, value), False)
        for value in ANY_VALUES:
            self.assertIs(is_tie_set(web, value), isinstance(value, list) and value == [])
            self.assertIs(is_tie_set(web, [value]), False)

    def test_ring_form(self):
        rng = random.Random(101)
        for many in (3, 4, 5, 24):
            for _ in range(20):
                parts = rng.sample(range(30), many)
                expected = min([r[k:] + r[:k] for r in (parts, parts[::-1]) for k in range(many)])
                self.assertEqual(ring_form(parts), expected)

    def test_ties_and_back(self):
        for web in small_webs(102):
            for ring in plain_rings(web):
                ends = [{ring[k - 1], ring[k]} for k in range(len(ring))]
                places = [k for k, tie in enumerate(web[1]) if set(tie[:2]) in ends]
                self.assertEqual(ring_ties(web, ring), places)
                self.assertEqual(ring_of(web, places), ring)
                self.assertIsNone(ring_of(web, places[1:]))

    def test_ring_of(self):
        rng = random.Random(103)
        for web in small_webs(104):
            by_ties = {tuple(ring_ties(web, ring)): ring for ring in plain_rings(web)}
            for _ in range(30):
                tie_set = [k for k in range(len(web[1])) if rng.random() < 0.6]
                self.assertEqual(ring_of(web, tie_set), by_ties.get(tuple(tie_set)))
        two = ([K] * 6, [(0, 1, 1), (0, 2, 1), (1, 2, 1), (3, 4, 1), (3, 5, 1), (4, 5, 1)], [], [])
        self.assertEqual([ring_of(two, row) for row in ([0, 1, 2], [3, 4, 5], [0, 1, 2, 3, 4, 5], [])],
                         [[0, 1, 2], [3, 4, 5], None, None])
        bow = ([K] * 5, [(0, 1, 1), (0, 2, 1), (1, 2, 1), (2, 3, 1), (2, 4, 1), (3, 4, 1)], [], [])
        self.assertIsNone(ring_of(bow, [0, 1, 2, 3, 4, 5]))


class AllRings(unittest.TestCase):
    def test_to_each_length(self):
        for web in small_webs(105):
            rings = plain_rings(web)
            for many in range(25):
                expected = [ring for ring in rings if len(ring) <= many]
                self.assertEqual(rings_to(web, many), expected)
                if len(web[1]) <= 10:
                    self.assertEqual(rings_plain(web, many), expected)

    def test_both_ways(self):
        rng = random.Random(106)
        for _ in range(60):
            web = some_web(rng, rng.randrange(4, 25), 10)
            for many in (0, 3, 5, 24):
                self.assertEqual(rings_to(web, many), rings_plain(web, many))

    def test_bound_of_rings(self):
        self.assertEqual([len(rings_to(whole(many), 24)) for many in (3, 4, 5, 6)], [1, 7, 37, 197])
        self.assertEqual(len(plain_rings(JUST)), 500)
        self.assertEqual(rings_to(JUST, 24), plain_rings(JUST))
        more = put_together([JUST, whole(3)])
        with self.assertRaises(TooMany) as caught:
            rings_to(more, 24)
        self.assertEqual((caught.exception.what, caught.exception.limit), ("rings", 500))
        self.assertEqual(len(rings_to(more, 7)), len([ring for ring in plain_rings(JUST) if len(ring) <= 7]) + 1)

    def test_many_rings(self):
        web = dense(48)
        with self.assertRaises(TooMany) as caught:
            rings_to(web, 24)
        self.assertEqual((caught.exception.what, caught.exception.limit), ("rings", 500))
        self.assertEqual(len(rings_to(web, 3)), 24)
        self.assertEqual(rings_to(web, 2), [])

    def test_few_rings_where_many_ways_lead_nowhere(self):
        # Behind a bridge many ways go on, and none of them comes back.
        ties = [(0, 1, 1), (0, 2, 1), (1, 2, 1), (2, 3, 1)]
        web = put_together([([K] * 4, ties, [], []), JUST])
        bridged = (web[0], sorted(web[1] + [(3, 5, 1)]), [], [])
        self.assertEqual(rings_to(bridged, 3)[0], [0, 1, 2])
        with self.assertRaises(TooMany):
            rings_to(bridged, 24)
        far = [(a + 4, b + 4) for k in range(20) for a, b in ((k, (k + 1) % 20), (k, (k + 2) % 20))]
        far = [(min(pair), max(pair), 1) for pair in far]
        great = ([K] * 24, sorted(ties + [(3, 4, 1)] + far), [], [])
        self.assertEqual(len(rings_to(great, 3)), 21)
        with self.assertRaises(TooMany):
            rings_to(great, 24)

    def test_bound_of_ties(self):
        five = whole(5)
        self.assertEqual(len(rings_plain(five, 24)), 37)
        eleven = (five[0] + [K], five[1] + [(4, 5, 1)], [], [])
        for many in (0, 24):
            with self.assertRaises(TooMany) as caught:
                rings_plain(eleven, many)
            self.assertEqual((caught.exception.what, caught.exception.limit), ("ties", 10))
        self.assertEqual(len(rings_to(eleven, 24)), 37)

    def test_many(self):
        for many in NOT_COUNTS + [25]:
            for asked in (lambda: rings_to(dense(48), many), lambda: rings_plain(dense(48), many)):
                with self.assertRaises(InvalidMany):
                    asked()


class Rank(unittest.TestCase):
    def test_rank(self):
        for web in some_webs(107, 60):
            self.assertEqual(ring_rank(web), len(web[1]) - len(web[0]) + len(plain_pieces(web)))
        self.assertEqual(ring_rank(([], [], [], [])), 0)

    def test_ring_through(self):
        for web in small_webs(108):
            rings = [(len(ring), ring_ties(web, ring)) for ring in plain_rings(web)]
            for place in range(len(web[1])):
                lengths = [length for length, ties in rings if place in ties]
                self.assertEqual(ring_through(web, place), min(lengths) if lengths else None)
        ring = ([K] * 24, sorted([(k, k + 1, 1) for k in range(23)] + [(0, 23, 1)]), [], [])
        self.assertEqual(ring_through(ring, 5), 24)


if __name__ == "__main__":
    unittest.main()
