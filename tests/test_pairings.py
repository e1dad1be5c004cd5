"""webnames.pairings: all pairings the plain way [61] and by colours [62], and their number [63]."""

import random
import unittest
from itertools import permutations

from tests import plain
from tests.helper import NOT_COUNTS, same_kinds, some_numbering, some_web, some_webs
from webnames.errors import InvalidMany, TooMany
from webnames.numberings import back, is_pairing, renumbered, then
from webnames.pairings import all_numberings, all_pairings, by_colours, first_pairing


def with_other_signs(rng, web):
    hands = [(a, rng.choice([1, -1])) for a, _ in web[2]]
    return (web[0], web[1], hands, [(a, b, rng.choice([1, -1])) for a, b, _ in web[3]])


def pairs_of_webs(seed, most):
    """Webs with alike ones, with ones of other signs, and with unlike ones."""
    rng = random.Random(seed)
    webs = [web for web in plain.SHAPES + some_webs(seed, 40, most) if len(web[0]) <= most]
    for web in webs:
        p = some_numbering(rng, len(web[0]))
        yield web, web
        yield web, renumbered(web, p)
        yield web, renumbered(with_other_signs(rng, web), p)
        yield web, rng.choice(webs)
        # One order is another one.
        if web[1]:
            ties = list(web[1])
            place = rng.randrange(len(ties))
            ties[place] = (*ties[place][:2], 3)
            yield (web[0], ties, [], []), renumbered((web[0], web[1], [], []), p)


class Numberings(unittest.TestCase):
    def test_all(self):
        for many in range(8):
            self.assertEqual(all_numberings(many), [list(p) for p in permutations(range(many))])
        self.assertEqual(all_numberings(0), [[]])
        for many in NOT_COUNTS + [8, 24]:
            with self.assertRaises(InvalidMany) as caught:
                all_numberings(many)
            self.assertTrue(same_kinds(caught.exception.value, many))


class BothWays(unittest.TestCase):
    def test_agree(self):
        counts = set()
        for web, other in pairs_of_webs(190, 6):
            expected = plain.pairings(web, other)
            self.assertEqual(all_pairings(web, other), expected)
            self.assertEqual(by_colours(web, other), expected)
            found = first_pairing(web, other)
            self.assertTrue(found in expected if expected else found is None)
            counts.add(len(expected))
        self.assertTrue({0, 1, 2, 3, 6, 24, 72} <= counts, counts)

    def test_seven_parts_and_eight(self):
        webs = [plain.ring(7), plain.star(6), plain.row(7), plain.twins((1, -1)), plain.beside(plain.ring(3), plain.ring(4))]
        for web in webs:
            web = plain.beside(web, plain.alone(7 - len(web[0]))) if len(web[0]) < 7 else web
            if len(web[0]) == 7:
                self.assertEqual(all_pairings(web, web), plain.pairings(web, web))
                self.assertEqual(by_colours(web, web), plain.pairings(web, web))
        for web, other in ((plain.ring(8), plain.ring(8)), (plain.ring(7), plain.ring(8)), (plain.ring(8), plain.row(2)),
                           (plain.alone(0), plain.alone(24))):
            with self.assertRaises(TooMany) as caught:
                all_pairings(web, other)
            self.assertEqual((caught.exception.what, caught.exception.limit), ("parts", 7))
        self.assertEqual(all_pairings(plain.alone(0), plain.alone(0)), [[]])
        self.assertEqual(by_colours(plain.alone(0), plain.alone(0)), [[]])
        self.assertEqual(first_pairing(plain.alone(0), plain.alone(0)), [])
        self.assertEqual(all_pairings(plain.alone(3), plain.alone(4)), [])
        self.assertEqual(by_colours(plain.alone(3), plain.alone(4)), [])
        self.assertIsNone(first_pairing(plain.alone(3), plain.alone(4)))

    def test_5040_and_more(self):
        self.assertEqual(by_colours(plain.alone(7), plain.alone(7)), all_numberings(7))
        self.assertEqual(all_pairings(plain.alone(7), plain.alone(7)), all_numberings(7))
        seven = plain.beside(plain.alone(7), plain.row(3, ("a", 1), (1, 2)))
        self.assertEqual(len(by_colours(seven, seven)), 5040)
        for web in (plain.beside(plain.alone(7), plain.row(2)), plain.alone(8), plain.alone(24)):
            with self.assertRaises(TooMany) as caught:
                by_colours(web, web)
            self.assertEqual((caught.exception.what, caught.exception.limit), ("pairings", 5040))
            # None of them is a pairing with an unlike web.
            other = plain.beside(web, plain.alone(1)) if len(web[0]) < 24 else plain.row(24)
            self.assertEqual(by_colours(web, other), [])

    def test_greater_webs(self):
        rng = random.Random(191)
        for many in (8, 9, 12, 24):
            for ties in (many // 2, many, many + 4, 48):
                web = some_web(rng, many, ties, kinds=("a", "b"))
                p = some_numbering(rng, many)
                other = renumbered(web, p)
                try:
                    found = by_colours(web, other)
                except TooMany:
                    continue
                self.assertIn(p, found)
                self.assertEqual(found, sorted(found))
                self.assertEqual(len({tuple(x) for x in found}), len(found))
                self.assertTrue(all(is_pairing(web, other, x) for x in found))
                self.assertEqual(len(by_colours(web, web)), len(found))

    def test_numbers(self):
        # The FACTS of [63].
        for web, other in pairs_of_webs(192, 6):
            found = by_colours(web, other)
            own = by_colours(web, web)
            if found:
                self.assertEqual(sorted(then(symmetry, found[0]) for symmetry in own), found)
                self.assertEqual(len(by_colours(other, other)), len(found))
                self.assertEqual(sorted(back(x) for x in found), by_colours(other, web))


class Greatest(unittest.TestCase):
    def check(self, web, seed=193):
        rng = random.Random(seed)
        for _ in range(2):
            other = renumbered(web, some_numbering(rng, len(web[0])))
            self.assertTrue(is_pairing(web, other, first_pairing(web, other)))

    def test_alike(self):
        six = [plain.star(3, sign) for sign in (1, -1, 1, 1, -1, 1)]
        for web in (plain.alone(24), plain.ring(24), plain.ladder(12), plain.beside(*[plain.ring(3)] * 8), plain.row(24),
                    plain.beside(*[plain.row(2)] * 12), plain.beside(*six), plain.beside(*[plain.cube()] * 3),
                    plain.twins((1, -1, 1, 1, -1, 1)), plain.beside(*[plain.double(s) for s in (1, -1, 1, -1)]),
                    plain.beside(plain.ring(12), plain.ring(12)), plain.beside(plain.all_tied(6), plain.ring(18))):
            self.check(web)
        rng = random.Random(194)
        signs = [[rng.choice([1, -1]) for _ in range(8)] for _ in range(3)]
        self.check(plain.beside(*[plain.cube(row) for row in signs]))

    def test_unlike(self):
        crossed = plain.ladder(12)
        crossed = (crossed[0], sorted(crossed[1] + [(0, 23, 1), (11, 12, 1)]), [], [])
        unlike = [("c", 0), ("k", 0), ("k", 1), ("k", 2), ("k", 3)]
        chiral = [(unlike, web[1], web[2], []) for web in (plain.star(4, 1), plain.star(4, -1))]
        closed = (crossed[0], sorted(plain.ladder(12)[1] + [(0, 11, 1), (12, 23, 1)]), [], [])
        for web, other in (
            (plain.ring(24), plain.beside(plain.ring(12), plain.ring(12))),
            (plain.beside(*[plain.ring(3)] * 8), plain.beside(*[plain.ring(3)] * 6, plain.ring(6))),
            (plain.beside(*[plain.ring(4)] * 6), plain.beside(*[plain.ring(3)] * 8)), (crossed, closed),
            (plain.alone(24), plain.alone(24, ("k", 1))), (plain.alone(24), plain.beside(plain.alone(22), plain.row(2))),
            (plain.beside(plain.alone(19), chiral[0]), plain.beside(plain.alone(19), chiral[1])),
            (plain.beside(*[chiral[0]] * 4), plain.beside(*[chiral[0]] * 3, chiral[1])),
            (plain.beside(plain.alone(20), plain.star(3, 1)), plain.beside(plain.alone(20), plain.star(3))),
        ):
            self.assertIsNone(first_pairing(web, other))
            self.assertIsNone(first_pairing(other, web))


if __name__ == "__main__":
    unittest.main()
