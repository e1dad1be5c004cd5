"""webnames.symmetric: symmetries, their number [94], orbits [97], and webs on the same numbers [98]."""

import random
import unittest
from math import factorial

from tests import plain
from tests.helper import group_of, some_numbering, some_webs
from tests.test_fulltree import few_leaves
from webnames.chains import group_order
from webnames.errors import TooMany
from webnames.leastforms import all_alike
from webnames.numberings import is_pairing, renumbered
from webnames.pairings import by_colours
from webnames.symmetric import (
    all_symmetries, keeping_count, numbering_count, orbit_at, part_orbits, symmetries, symmetries_by_leaves,
    symmetry_count, tie_orbits,
)


def small(seed, most=6, many=40):
    return [web for web in plain.SHAPES + some_webs(seed, many, most) if len(web[0]) <= most]


class Symmetries(unittest.TestCase):
    def test_small_webs(self):
        rng = random.Random(290)
        counts = set()
        for web in small(291):
            known = plain.pairings(web, web)
            many = len(web[0])
            counts.add(len(known))
            self.assertEqual(symmetry_count(web), len(known))
            self.assertEqual(all_symmetries(web), known)
            self.assertEqual(symmetries_by_leaves(web), known)
            makers = symmetries(web)
            self.assertLessEqual(len(makers), many)
            self.assertEqual(group_of(many, makers), {tuple(p) for p in known})
            self.assertEqual(numbering_count(web), factorial(many) // len(known))
            orbits = sorted({tuple(sorted({p[part] for p in known})) for part in range(many)})
            self.assertEqual(part_orbits(web), [list(orbit) for orbit in orbits])
            for path in [[]] + plain.paths_of(rng, many, (1, 2, 3)):
                kept = [p for p in known if all(p[x] == x for x in path)]
                self.assertEqual(keeping_count(web, path), len(kept))
                for part in range(many):
                    orbit = sorted({p[part] for p in kept})
                    self.assertEqual(orbit_at(web, path, part), orbit)
                    # The FACT of [97].
                    if path == []:
                        self.assertEqual(len(orbit) * keeping_count(web, [part]), len(known))
        self.assertTrue({1, 2, 3, 6, 12, 24, 72, 120} <= counts, counts)

    def test_tie_orbits(self):
        seen = set()
        for web in small(292):
            known = plain.pairings(web, web)
            orbits = []
            for a, b, order in web[1]:
                orbit = sorted({(min(p[a], p[b]), max(p[a], p[b]), order) for p in known})
                if orbit not in orbits:
                    orbits.append(orbit)
            self.assertEqual(tie_orbits(web), sorted(orbits))
            seen.add(len(orbits))
        self.assertTrue({0, 1, 2, 3} <= seen)
        # One part orbit, but two tie orbits: the beams of a ladder of three rungs that is closed.
        prism = plain.ring_with((3, -2, 2) * 2)
        self.assertEqual((len(part_orbits(prism)), [len(orbit) for orbit in tie_orbits(prism)]), (1, [6, 3]))

    def test_numbering_counts(self):
        for web in small(293, 5):
            self.assertEqual(numbering_count(web), len(all_alike(web)))
        self.assertEqual(numbering_count(plain.ring(24)), factorial(24) // 48)
        self.assertEqual(numbering_count(plain.alone(24)), 1)

    def test_by_leaves(self):
        for web in few_leaves(294, 300, 40):
            known = by_colours(web, web)
            self.assertEqual(symmetries_by_leaves(web), known)
            self.assertEqual(all_symmetries(web), known)
            self.assertEqual(symmetry_count(web), len(known))


class Bounds(unittest.TestCase):
    def test_5040_and_more(self):
        seven = plain.alone(7)
        self.assertEqual(len(all_symmetries(seven)), 5040)
        self.assertEqual(symmetries_by_leaves(seven), all_symmetries(seven))
        more = plain.beside(seven, plain.row(2))
        for web in (more, plain.alone(8), plain.alone(24), plain.beside(*[plain.ring(3)] * 8)):
            with self.assertRaises(TooMany) as caught:
                all_symmetries(web)
            self.assertEqual((caught.exception.what, caught.exception.limit), ("symmetries", 5040))
            with self.assertRaises(TooMany) as caught:
                symmetries_by_leaves(web)
            self.assertEqual((caught.exception.what, caught.exception.limit), ("leaves", 5040))
        self.assertEqual(symmetry_count(more), 10080)
        # Few symmetries, but many leaves: here hands part what the leaves do not.
        web = plain.beside(plain.star(4, 1), plain.star(4, 1), plain.star(4, 1))
        rigid = (web[0], [(a, b, 1 + a // 5) for a, b, _ in web[1]], web[2], [])
        self.assertEqual(symmetry_count(rigid), 12 ** 3)
        self.assertEqual(len(all_symmetries(rigid)), 12 ** 3)
        with self.assertRaises(TooMany) as caught:
            symmetries_by_leaves(rigid)
        self.assertEqual((caught.exception.what, caught.exception.limit), ("leaves", 5040))


class Greatest(unittest.TestCase):
    def test_numbers(self):
        cubes = plain.beside(*[plain.cube()] * 3)
        stars = plain.beside(*[plain.star(3, sign) for sign in (1, -1, 1, 1, -1, 1)])
        rng = random.Random(295)
        for web, number in (
            (plain.alone(24), factorial(24)), (plain.ring(24), 48), (plain.beside(*[plain.ring(3)] * 8), 6 ** 8 * factorial(8)),
            (plain.beside(*[plain.row(2)] * 12), 2 ** 12 * factorial(12)), (plain.ladder(12), 4), (cubes, 48 ** 3 * 6),
            (stars, 3 ** 6 * factorial(6)), (plain.row(24), 2), (plain.beside(plain.ring(11), plain.ring(13)), 22 * 26),
            (plain.FRUCHT, 1), (plain.beside(plain.FRUCHT, plain.FRUCHT), 2), (plain.twins((1, -1, 1, 1, -1, 1)), 18),
            (plain.beside(*[plain.double(s) for s in (1, -1, 1, -1)]), 4 ** 4 * 24),
            (plain.beside(*[plain.star(3, 1)] * 3, *[plain.star(3)] * 3), 3 ** 3 * 6 * 6 ** 3 * 6),
        ):
            self.assertEqual(symmetry_count(web), number)
            far = renumbered(web, some_numbering(rng, len(web[0])))
            self.assertEqual(symmetry_count(far), number)
            makers = symmetries(far)
            self.assertLessEqual(len(makers), len(web[0]))
            self.assertTrue(all(is_pairing(far, far, p) for p in makers))
            self.assertEqual(group_order(len(web[0]), makers), number)
            self.assertEqual(sum(len(orbit) for orbit in part_orbits(far)), len(web[0]))
            self.assertEqual(sum(len(orbit) for orbit in tie_orbits(far)), len(web[1]))
        self.assertEqual(part_orbits(plain.alone(24)), [list(range(24))])
        self.assertEqual(orbit_at(plain.alone(24), [3, 5], 0), [x for x in range(24) if x not in (3, 5)])
        self.assertEqual(keeping_count(plain.alone(24), [3, 5]), factorial(22))
        self.assertEqual(orbit_at(plain.ring(24), [0], 5), [5, 19])
        self.assertEqual(symmetries(plain.FRUCHT), [])

    def test_makers_and_members(self):
        # Rings, prisms and the like, in any numbering: few symmetries that keep a part.
        rng = random.Random(296)
        webs = [plain.PETERSEN] + [plain.ring(many) for many in (5, 6, 7, 8, 9, 12)] + [plain.cube(), plain.ring_with((3, -2, 2) * 2)]
        webs += [plain.beside(plain.ring(3), plain.ring(3)), plain.beside(plain.star(4, 1), plain.star(4, -1))]
        webs += [plain.ring_with((4,) * 8), plain.ring_with((3,) * 6), plain.ring_with((5, -5) * 7), plain.all_tied(6)]
        webs += [(plain.all_tied(4)[0], plain.all_tied(4)[1], list(enumerate(signs)), []) for signs in plain.all_signs(4)]
        for web in webs:
            for _ in range(4):
                far = renumbered(web, some_numbering(rng, len(web[0])))
                members = all_symmetries(far)
                self.assertEqual(len({tuple(p) for p in members}), symmetry_count(web))
                self.assertTrue(all(is_pairing(far, far, p) for p in members))
                self.assertEqual(group_of(len(far[0]), symmetries(far)), {tuple(p) for p in members})

    def test_signs_that_make_many_leaves(self):
        # The search of stage 8 goes beyond its limit here; the symmetries are told all the same.
        rng = random.Random(1)
        signs = [[rng.choice([1, -1]) for _ in range(8)] for _ in range(3)]
        web = plain.beside(*[plain.cube(row) for row in signs])
        number = symmetry_count(web)
        self.assertEqual(symmetry_count(renumbered(web, some_numbering(rng, 24))), number)
        self.assertEqual(len(all_symmetries(web)), number)
        self.assertTrue(all(is_pairing(web, web, p) for p in all_symmetries(web)))
        # The symmetries of the pieces, times those that exchange alike ones.
        cubes = [plain.cube(row) for row in signs]
        lots = [[b for b in cubes if by_colours(a, b)] for a in cubes]
        expected = 1
        for k, lot in enumerate(lots):
            expected *= symmetry_count(cubes[k]) * (1 + len([x for x in lots[:k] if x == lot]))
        self.assertEqual(number, expected)


if __name__ == "__main__":
    unittest.main()
