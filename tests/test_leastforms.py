"""webnames.leastforms: least webs [64], [65], and what parts webs [66], [67]."""

import random
import unittest
from itertools import permutations
from math import factorial

from tests import plain
from tests.helper import near, same_kinds, some_numbering, some_web, some_webs
from webnames.errors import TooMany
from webnames.leastforms import all_alike, invariants, least_by_parts, least_numberings, least_of_all, parted_by
from webnames.numberings import back, renumbered, then
from webnames.pairings import by_colours
from webnames.webs import is_web

WORDS = ["parts", "ties", "hands", "sides", "colours", "tables", "distances"]


def small_webs(seed, most, many=40):
    return [web for web in plain.SHAPES + some_webs(seed, many, most) if len(web[0]) <= most]


class Least(unittest.TestCase):
    def test_least_webs(self):
        rng = random.Random(200)
        for web in small_webs(201, 6):
            many = len(web[0])
            webs = [(renumbered(web, list(p)), list(p)) for p in permutations(range(many))]
            least = min(webs)[0]
            self.assertTrue(same_kinds(least_of_all(web), least))
            self.assertTrue(same_kinds(least_by_parts(web), least))
            self.assertIs(is_web(least_of_all(web)), True)
            self.assertEqual(least_numberings(web), sorted(p for other, p in webs if other == least))
            alike = []
            for other, _ in sorted(webs):
                if other not in alike:
                    alike.append(other)
            self.assertTrue(same_kinds(all_alike(web), alike))
            far = renumbered(web, some_numbering(rng, many))
            self.assertEqual((least_of_all(far), all_alike(far)), (least, alike))
            # The FACTS of [65].
            own = by_colours(web, web)
            numberings = least_numberings(web)
            self.assertEqual(sorted(then(symmetry, numberings[0]) for symmetry in own), numberings)
            self.assertEqual(len(alike) * len(own), factorial(many))

    def test_seven_parts_and_eight(self):
        webs = [plain.ring(7), plain.row(7), plain.alone(7), plain.star(6), plain.beside(plain.star(3, 1), plain.ring(3))]
        for web in webs:
            self.assertEqual(least_of_all(web), least_by_parts(web))
            least = least_of_all(web)
            self.assertTrue(all(renumbered(web, p) == least for p in least_numberings(web)))
            self.assertEqual(len(least_numberings(web)), len(by_colours(web, web)))
            with self.assertRaises(TooMany) as caught:
                all_alike(web)
            self.assertEqual((caught.exception.what, caught.exception.limit), ("parts", 6))
        for web in (plain.ring(8), plain.alone(24)):
            for function in (least_of_all, least_numberings):
                with self.assertRaises(TooMany) as caught:
                    function(web)
                self.assertEqual((caught.exception.what, caught.exception.limit), ("parts", 7))

    def test_5040_numberings_and_more(self):
        parts = [("a", 0)] * 7 + [("b", k) for k in range(-8, 9)]
        web = (parts, sorted((k, k + 1, 1 + k % 4) for k in range(23)), [], [])
        rng = random.Random(202)
        far = renumbered(web, some_numbering(rng, 24))
        least = least_by_parts(far)
        self.assertEqual(least, least_by_parts(web))
        self.assertEqual(least[0], sorted(parts))
        for ties in (10, 30):
            mixed = [("a", 0)] * 5 + [("b", 0)] * 3 + [("b", 1)] * 3 + [("c", k) for k in range(-4, 6)]
            web = some_web(rng, 21, ties)
            web = (mixed, web[1], web[2], web[3])
            lots = [list(range(5)), [5, 6, 7], [8, 9, 10]] + [[k] for k in range(11, 21)]
            tried = []
            for first in permutations(lots[0]):
                for second in permutations(lots[1]):
                    for third in permutations(lots[2]):
                        tried.append(renumbered(web, back([*first, *second, *third, *range(11, 21)])))
            far = renumbered(web, some_numbering(rng, 21))
            self.assertEqual(least_by_parts(far), min(tried))
        for web in (plain.alone(8), plain.ring(24), ([("a", 0)] * 7 + [("b", 0)] * 2, [], [], [])):
            with self.assertRaises(TooMany) as caught:
                least_by_parts(web)
            self.assertEqual((caught.exception.what, caught.exception.limit), ("numberings", 5040))
        self.assertEqual(least_by_parts(plain.alone(7)), plain.alone(7))


def distances(web, part):
    beside = near(web)
    away = {part: 0}
    for _ in range(24):
        for a in list(away):
            for b in beside[a]:
                away[b] = min(away.get(b, 99), away[a] + 1)
    return sorted(away.values())


def lists_of(web):
    """The seven lists of [66]."""
    colouring = plain.refine(web, plain.first(web))
    cells = plain.cells(colouring)

    def pair(a, b):
        return tuple(sorted([web[0][a], web[0][b]]))

    return (
        sorted(web[0]), sorted((order, *pair(a, b)) for a, b, order in web[1]),
        sorted(web[0][a] for a, _ in web[2]), sorted(pair(a, b) for a, b, _ in web[3]),
        [len(cell) for cell in cells], [plain.key(web, colouring, cell[-1])[1] for cell in cells],
        sorted(distances(web, part) for part in range(len(web[0]))),
    )


class Stays(unittest.TestCase):
    def test_invariants(self):
        rng = random.Random(203)
        for web in plain.SHAPES + some_webs(204, 50):
            found = invariants(web)
            self.assertTrue(same_kinds(found, lists_of(web)))
            self.assertTrue(same_kinds(invariants(renumbered(web, some_numbering(rng, len(web[0])))), found))
            signs = ([(a, -sign) for a, sign in web[2]], [(a, b, -sign) for a, b, sign in web[3]])
            self.assertEqual(invariants((web[0], web[1], *signs)), found)
            self.assertIsNone(parted_by(web, renumbered(web, some_numbering(rng, len(web[0])))))
        self.assertEqual(invariants(([], [], [], [])), ([], [], [], [], [], [], []))

    def test_parted(self):
        webs = plain.SHAPES + some_webs(205, 30)
        seen = set()
        told = [lists_of(web) for web in webs]
        for k, web in enumerate(webs):
            for j in (k, (k + 1) % len(webs), (k + 7) % len(webs)):
                unlike = [word for word, x, y in zip(WORDS, told[k], told[j]) if x != y]
                found = parted_by(web, webs[j])
                self.assertEqual(found, unlike[0] if unlike else None)
                seen.add(found)
        self.assertTrue({"parts", "ties", None} <= seen)

    def test_each_word(self):
        k = plain.K
        double, bare = plain.double(), (plain.double()[0], plain.double()[1], [], [])
        three, two_two = plain.beside(plain.row(3), plain.alone(1)), plain.beside(plain.row(2), plain.row(2))
        # Equal kinds of ties and parts in each, but in one web the two hands stand at parts of the same neighbours.
        for web, other, word in (
            (plain.alone(3), plain.alone(2), "parts"), (plain.alone(1), plain.alone(1, ("k", 1)), "parts"),
            (plain.row(3), plain.alone(3), "ties"), (plain.row(3), plain.row(3, orders=(1, 2)), "ties"),
            (([k] * 4, [(0, 1, 1), (0, 2, 1), (0, 3, 1)], [(0, 1)], []), ([k] * 4, [(0, 1, 1), (0, 2, 1), (0, 3, 1)], [], []),
             "hands"),
            (double, bare, "sides"), (three, two_two, "colours"), (plain.ring(6), plain.row(6), "ties"),
            (plain.beside(plain.ring(3), plain.ring(3)), plain.ring(6), "distances"),
            (double, plain.double(-1), None), (plain.star(3, 1), plain.star(3, -1), None),
        ):
            self.assertEqual(parted_by(web, other), word)
            self.assertEqual(parted_by(other, web), word)
            self.assertEqual(parted_by(web, web), None)

    def test_by_tables(self):
        # Webs of six like parts, some of which have equal cells, but not equal tables.
        found = set()
        rng = random.Random(206)
        for _ in range(3000):
            ties = [some_web(rng, 6, 6, bare=True, orders=(1,))[1] for _ in range(2)]
            web, other = [([("a", 0)] * 6, told, [], []) for told in ties]
            self.assertEqual(parted_by(web, other), parted_by(other, web))
            found.add(parted_by(web, other))
            if "tables" in found:
                break
        self.assertIn("tables", found)
        self.assertTrue(found <= set(WORDS) | {None})


if __name__ == "__main__":
    unittest.main()
