"""webnames.ways: ways and distances [31], bridges and cut parts [33], blocks [35], plain and by one walk."""

import random
import unittest
from itertools import combinations

from tests.helper import ANY_VALUES, changed_once, near, some_web, some_webs
from tests.test_pieces import plain_pieces
from webnames.rings import ring_ties, rings_plain
from webnames.ways import (
    all_distances, blocks, blocks_walk, bridges, bridges_walk, cut_parts, cut_parts_walk, distances, is_way, least_way,
)

K = ("k", 0)
RING = ([K] * 5, [(0, 1, 1), (0, 4, 1), (1, 2, 1), (2, 3, 1), (3, 4, 1)], [], [])


def plain_distances(web):
    """The distances, by going over each part in turn as one that a way may have."""
    many = len(web[0])
    far = 10 ** 6
    found = [[0 if a == b else far for b in range(many)] for a in range(many)]
    for a, b, _ in web[1]:
        found[a][b] = found[b][a] = 1
    for c in range(many):
        for a in range(many):
            for b in range(many):
                found[a][b] = min(found[a][b], found[a][c] + found[c][b])
    return [[None if x >= far else x for x in row] for row in found]


class Ways(unittest.TestCase):
    def test_is_way(self):
        for value in ([0], [4], [0, 1], [1, 0], [2, 1, 0, 4, 3], [0, 1, 2, 3, 4]):
            self.assertIs(is_way(RING, value), True)
        for value in ([], [5], [-1], [0, 2], [0, 1, 0], [0, 0], (0, 1), [0, True], [False], [0, None], [0, [1]],
                      [0, 1, 2, 3, 4, 0], ["0"], None):
            self.assertIs(is_way(RING, value), False)
        for value in ANY_VALUES:
            self.assertIs(is_way(RING, value), False)
            self.assertIs(is_way(RING, [0, value]), False)
            self.assertIs(is_way(([], [], [], []), value), False)

    def test_ways_changed_once(self):
        links = {(a, b) for a, b, _ in RING[1]} | {(b, a) for a, b, _ in RING[1]}
        for value in changed_once([3, 4, 0, 1]):
            expected = type(value) is list and len(value) > 0 and all(type(x) is int and 0 <= x < 5 for x in value)
            if expected:
                expected = len(set(value)) == len(value) and all(pair in links for pair in zip(value, value[1:]))
            self.assertIs(is_way(RING, value), expected)

    def test_distances(self):
        for web in some_webs(90):
            expected = plain_distances(web)
            self.assertEqual(all_distances(web), expected)
            for part in range(len(web[0])):
                self.assertEqual(distances(web, part), expected[part])

    def test_least_way(self):
        rng = random.Random(91)
        for web in some_webs(92) + [some_web(rng, 7, 9) for _ in range(20)]:
            beside = near(web)
            far = plain_distances(web)
            for first in range(len(web[0])):
                rows = [[first]]
                least = {}
                while rows and len(web[0]) <= 8:
                    for row in rows:
                        least.setdefault(row[-1], row)
                    rows = [row + [x] for row in rows for x in beside[row[-1]] if x not in row]
                for last in range(len(web[0])):
                    way = least_way(web, first, last)
                    if far[first][last] is None:
                        self.assertIsNone(way)
                    else:
                        self.assertIs(is_way(web, way), True)
                        self.assertEqual((way[0], way[-1], len(way) - 1), (first, last, far[first][last]))
                        if len(web[0]) <= 8:
                            self.assertEqual(way, least[last])
        self.assertEqual(least_way(RING, 2, 2), [2])


class Cuts(unittest.TestCase):
    def webs(self, seed):
        rng = random.Random(seed)
        return some_webs(seed, 60) + [some_web(rng, rng.randrange(5, 12), rng.randrange(4, 14)) for _ in range(150)]

    def test_bridges(self):
        for web in self.webs(93):
            many = len(plain_pieces(web))
            expected = []
            for place in range(len(web[1])):
                other = (web[0], [tie for k, tie in enumerate(web[1]) if k != place], [], [])
                if len(plain_pieces(other)) > many:
                    expected.append(place)
            self.assertEqual(bridges(web), expected)
            self.assertEqual(bridges_walk(web), expected)

    def test_cut_parts(self):
        for web in self.webs(94):
            many = len(plain_pieces(web))
            expected = []
            for part in range(len(web[0])):
                others = (web[0], [tie for tie in web[1] if part not in tie[:2]], [], [])
                if len(plain_pieces(others)) - 1 > many:
                    expected.append(part)
            self.assertEqual(cut_parts(web), expected)
            self.assertEqual(cut_parts_walk(web), expected)

    def test_blocks(self):
        for web in self.webs(95):
            found = blocks(web)
            self.assertEqual(found, blocks_walk(web))
            self.assertEqual(sorted(place for block in found for place in block), list(range(len(web[1]))))
            self.assertEqual(found, sorted(sorted(block) for block in found))
            self.assertEqual([block[0] for block in found if len(block) == 1], bridges(web))
            cut = [part for part in range(len(web[0]))
                   if len([1 for block in found if any(part in web[1][k][:2] for k in block)]) > 1]
            self.assertEqual(cut, cut_parts(web))
            if len(web[1]) <= 10:
                rings = [set(ring_ties(web, ring)) for ring in rings_plain(web, 24)]
                for i, j in combinations(range(len(web[1])), 2):
                    together = any(i in ring and j in ring for ring in rings)
                    self.assertEqual(any(i in block and j in block for block in found), together)

    def test_single_webs(self):
        self.assertEqual([f(([], [], [], [])) for f in (bridges, bridges_walk, cut_parts, cut_parts_walk, blocks)],
                         [[]] * 5)
        self.assertEqual([bridges(RING), cut_parts(RING), blocks(RING)], [[], [], [[0, 1, 2, 3, 4]]])
        bow = ([K] * 5, [(0, 1, 1), (0, 2, 1), (1, 2, 1), (2, 3, 1), (2, 4, 1), (3, 4, 1)], [], [])
        self.assertEqual([bridges_walk(bow), cut_parts_walk(bow), blocks_walk(bow)], [[], [2], [[0, 1, 2], [3, 4, 5]]])
        line = ([K] * 24, [(k, k + 1, 1) for k in range(23)], [], [])
        self.assertEqual([bridges_walk(line), cut_parts_walk(line)], [list(range(23)), list(range(1, 23))])


if __name__ == "__main__":
    unittest.main()
