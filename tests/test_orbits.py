"""webnames.orbits: orbits of parts, rows and pairs, paintings [24], and their numbers [25]."""

import random
import unittest
from itertools import product

from tests.helper import NOT_COUNTS, group_of, some_groups, some_numbering
from webnames.errors import InvalidMany, TooMany
from webnames.orbits import (
    orbit_count, orbit_of, orbit_paths, orbits, painting_count, paintings, pair_orbits, row_orbit,
)

ALL_24 = [list(range(1, 24)) + [0], [1, 0] + list(range(2, 24))]


class Orbits(unittest.TestCase):
    def test_orbits(self):
        for many, numberings in some_groups(50):
            members = group_of(many, numberings)
            found = []
            for part in range(many):
                orbit = sorted({member[part] for member in members})
                self.assertEqual(orbit_of(many, numberings, part), orbit)
                if orbit not in found:
                    found.append(orbit)
            self.assertEqual(orbits(many, numberings), sorted(found))
            self.assertEqual(orbit_count(many, numberings), len(found))

    def test_pair_orbits(self):
        for many, numberings in some_groups(51):
            if many <= 9:
                members = group_of(many, numberings)
                found = set()
                for a in range(many):
                    for b in range(a + 1, many):
                        found.add(tuple(sorted({tuple(sorted((m[a], m[b]))) for m in members})))
                self.assertEqual(pair_orbits(many, numberings), [list(orbit) for orbit in sorted(found)])
        self.assertEqual(len(pair_orbits(24, ALL_24)), 1)
        self.assertEqual(len(pair_orbits(24, ALL_24[:1])), 12)
        self.assertEqual(pair_orbits(3, []), [[(0, 1)], [(0, 2)], [(1, 2)]])

    def test_orbit_paths(self):
        rng = random.Random(52)
        for many in range(1, 6):
            for _ in range(8):
                numberings = [some_numbering(rng, many) for _ in range(rng.randrange(4))]
                for part in range(many):
                    least = {}
                    for length in range(many):
                        for places in product(range(len(numberings)), repeat=length):
                            at = part
                            for place in places:
                                at = numberings[place][at]
                            least.setdefault(at, list(places))
                    self.assertEqual(orbit_paths(many, numberings, part), sorted(least.items()))
        self.assertEqual(orbit_paths(24, ALL_24[:1], 3)[2], (2, [0] * 23))

    def test_row_orbit(self):
        rng = random.Random(53)
        for many, numberings in some_groups(54):
            members = group_of(many, numberings)
            for length in (0, 1, 2, 3, 24):
                row = [rng.randrange(many) for _ in range(length)] if many else []
                images = {tuple(m[x] for x in row) for m in members}
                self.assertEqual(row_orbit(many, numberings, row), [list(image) for image in sorted(images)])

    def test_row_bound(self):
        with self.assertRaises(TooMany) as caught:
            row_orbit(24, ALL_24, [5, 3, 5, 1])
        self.assertEqual((caught.exception.what, caught.exception.limit), ("rows", 5040))
        self.assertEqual(len(row_orbit(24, ALL_24, [5, 3, 5, 3, 3])), 552)
        seven = [[1, 2, 3, 4, 5, 6, 0], [1, 0, 2, 3, 4, 5, 6]]
        self.assertEqual(len(row_orbit(7, seven, [6, 5, 4, 3, 2, 1, 0])), 5040)
        # More than 5,040 members, but no more rows.
        self.assertEqual(len(row_orbit(24, ALL_24, [2] * 24)), 24)

    def test_no_bound_where_none_is_told(self):
        self.assertEqual(orbit_of(24, ALL_24, 7), list(range(24)))
        self.assertEqual(orbits(24, ALL_24), [list(range(24))])
        self.assertEqual(len(orbit_paths(24, ALL_24, 0)), 24)

    def test_group_bound(self):
        eight = [[1, 2, 3, 4, 5, 6, 7, 0], [1, 0, 2, 3, 4, 5, 6, 7]]
        for many, numberings in ((24, ALL_24), (8, eight)):
            for asked in (lambda: orbit_count(many, numberings), lambda: painting_count(many, numberings, 0)):
                with self.assertRaises(TooMany) as caught:
                    asked()
                self.assertEqual((caught.exception.what, caught.exception.limit), ("group", 5040))
        seven = [[1, 2, 3, 4, 5, 6, 0], [1, 0, 2, 3, 4, 5, 6]]
        self.assertEqual(orbit_count(7, seven), 1)
        self.assertEqual(painting_count(7, seven, 4), 120)


class Paintings(unittest.TestCase):
    def test_least_of_each_class(self):
        for many, numberings in some_groups(55):
            for most in range(5):
                if most ** many <= 1000:
                    members = group_of(many, numberings)
                    if len(members) > 200:
                        continue
                    expected = set()
                    for painting in product(range(most), repeat=many):
                        images = []
                        for m in members:
                            moved = [0] * many
                            for part in range(many):
                                moved[m[part]] = painting[part]
                            images.append(moved)
                        expected.add(tuple(min(images)))
                    found = paintings(many, numberings, most)
                    self.assertEqual(found, [list(painting) for painting in sorted(expected)])

    def test_both_ways_agree(self):
        for many, numberings in some_groups(56):
            for most in range(5):
                if most ** many <= 5000:
                    self.assertEqual(painting_count(many, numberings, most), len(paintings(many, numberings, most)))

    def test_edges(self):
        self.assertEqual(paintings(0, [], 0), [[]])
        self.assertEqual(painting_count(0, [[]], 0), 1)
        self.assertEqual(paintings(3, [], 0), [])
        self.assertEqual(painting_count(3, [], 0), 0)
        self.assertEqual(paintings(24, ALL_24, 1), [[0] * 24])
        self.assertEqual(paintings(24, ALL_24, 0), [])
        self.assertEqual(len(paintings(12, [], 2)), 4096)
        self.assertEqual(painting_count(24, [], 4), 4 ** 24)

    def test_bound(self):
        for many, most in ((13, 2), (8, 3), (7, 4), (24, 4), (24, 2)):
            with self.assertRaises(TooMany) as caught:
                paintings(many, [], most)
            self.assertEqual((caught.exception.what, caught.exception.limit), ("paintings", 5000))
        self.assertEqual(len(paintings(6, [[1, 2, 3, 4, 5, 0]], 4)), 700)
        eight = [[1, 2, 3, 4, 5, 6, 7, 0], [1, 0, 2, 3, 4, 5, 6, 7]]
        self.assertEqual(len(paintings(8, eight, 2)), 9)

    def test_bounds_of_numbers(self):
        for many in NOT_COUNTS + [25]:
            for asked in (lambda: orbit_of(many, [], 0), lambda: orbits(many, []), lambda: orbit_paths(many, [], 0),
                          lambda: row_orbit(many, [], []), lambda: pair_orbits(many, []),
                          lambda: orbit_count(many, []), lambda: paintings(many, [], 5),
                          lambda: painting_count(many, [], 5)):
                with self.assertRaises(InvalidMany) as caught:
                    asked()
                self.assertIs(caught.exception.value is many or caught.exception.value == many, True)
        for most in NOT_COUNTS + [5]:
            for asked in (lambda: paintings(24, [], most), lambda: painting_count(24, ALL_24, most)):
                with self.assertRaises(InvalidMany):
                    asked()


if __name__ == "__main__":
    unittest.main()
