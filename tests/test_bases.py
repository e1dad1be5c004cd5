"""webnames.bases: sums [33], independent rings [36], bases [37], odd rings [38] and base papers [39]."""

import random
import unittest
from itertools import combinations

from tests.helper import ANY_VALUES, changed_once, some_web, some_webs
from tests.test_rings import JUST, plain_rings, small_webs, whole
from tests.test_webs import dense
from webnames.bases import (
    as_sum, base_paper, is_base_paper, is_independent, is_odd, is_ring_base, odd_ring, plain_base, ring_base,
    ring_lengths, sum_of,
)
from webnames.errors import TooMany
from webnames.pieces import put_together
from webnames.rings import is_ring, is_tie_set, ring_rank, ring_ties, rings_to

K = ("k", 0)


def plain_independent(web, rings):
    """Whether no choice of one or more places has the sum `[]`, by trying each."""
    for size in range(1, len(rings) + 1):
        for chosen in combinations(rings, size):
            total = set()
            for ring in chosen:
                total ^= set(ring_ties(web, ring))
            if not total:
                return False
    return True


def plain_is_paper(web, value, rings):
    """Whether any value is a base paper, where rings has all rings of the web."""
    if type(value) is not list or len(value) != ring_rank(web):
        return False
    for row in value:
        if type(row) is not tuple or len(row) != 2 or not is_ring(web, row[0]) or not is_tie_set(web, row[1]):
            return False
    for k, (ring, tie_set) in enumerate(value):
        ties = set(ring_ties(web, ring))
        if len(ties & set(tie_set)) % 2 == 0 or any(len(ties & set(row[1])) % 2 for row in value[k + 1:]):
            return False
        if any(len(set(ring_ties(web, other)) & set(tie_set)) % 2 for other in rings if len(other) < len(ring)):
            return False
    return True


class Sums(unittest.TestCase):
    def test_sum_and_odd(self):
        rng = random.Random(110)
        for _ in range(200):
            first, second = [sorted(rng.sample(range(48), rng.choice([0, 1, 5, 30, 48]))) for _ in range(2)]
            self.assertEqual(sum_of(first, second), sorted(set(first) ^ set(second)))
            self.assertIs(is_odd(first, second), len(set(first) & set(second)) % 2 == 1)

    def test_independent(self):
        rng = random.Random(111)
        for web in small_webs(112, 60):
            rings = plain_rings(web)
            for size in range(min(6, len(rings)) + 1):
                chosen = rng.sample(rings, size)
                self.assertIs(is_independent(web, chosen), plain_independent(web, chosen))
                if size:
                    self.assertIs(is_independent(web, chosen + chosen[:1]), False)
        self.assertIs(is_independent(([], [], [], []), []), True)

    def test_as_sum(self):
        rng = random.Random(113)
        for web in small_webs(114, 60):
            rings = plain_rings(web)
            rng.shuffle(rings)
            base = []
            for ring in rings[:6]:
                if plain_independent(web, base + [ring]):
                    base.append(ring)
            sums = {}
            for size in range(len(base) + 1):
                for chosen in combinations(range(len(base)), size):
                    total = set()
                    for k in chosen:
                        total ^= set(ring_ties(web, base[k]))
                    sums[tuple(sorted(total))] = list(chosen)
            for tie_set, chosen in sums.items():
                self.assertEqual(as_sum(web, base, list(tie_set)), chosen)
            for _ in range(10):
                tie_set = [k for k in range(len(web[1])) if rng.random() < 0.5]
                self.assertEqual(as_sum(web, base, tie_set), sums.get(tuple(tie_set)))
        self.assertEqual(as_sum(([], [], [], []), [], []), [])


class Bases(unittest.TestCase):
    def test_plain_base(self):
        for web in small_webs(115, 60):
            taken = []
            for ring in plain_rings(web):
                if plain_independent(web, taken + [ring]):
                    taken.append(ring)
                if len(taken) == ring_rank(web):
                    break
            self.assertEqual(plain_base(web), taken)
            self.assertEqual(len(taken), ring_rank(web))

    def test_only_plain_base_has_a_limit(self):
        for web in (dense(48), put_together([JUST, whole(3)])):
            with self.assertRaises(TooMany) as caught:
                plain_base(web)
            self.assertEqual((caught.exception.what, caught.exception.limit), ("rings", 500))
            paper = base_paper(web)
            self.assertIs(is_base_paper(web, paper), True)
            self.assertIs(is_ring_base(web, ring_base(web)), True)
            self.assertEqual(sorted(len(ring) for ring, _ in paper), ring_lengths(web))
            self.assertEqual(len(ring_lengths(web)), ring_rank(web))
            self.assertIs(is_independent(web, ring_base(web)), True)
        self.assertEqual(ring_lengths(dense(48)), [3] * 24 + [12])
        self.assertEqual(len(plain_base(JUST)), 12)

    def test_lengths_are_those_of_all_least_bases(self):
        for web in some_webs(116, 60) + small_webs(117, 60):
            lengths = ring_lengths(web)
            self.assertEqual(lengths, sorted(len(ring) for ring in ring_base(web)))
            self.assertEqual(lengths, sorted(len(ring) for ring, _ in base_paper(web)))
            self.assertIs(is_ring_base(web, ring_base(web)), True)
            try:
                base = plain_base(web)
            except TooMany:
                continue
            self.assertEqual(lengths, sorted(len(ring) for ring in base))
            self.assertIs(is_ring_base(web, base), True)
            self.assertIs(is_ring_base(web, base[::-1]), True)

    def test_is_ring_base(self):
        for web in small_webs(118, 60):
            rings = plain_rings(web)
            rank = ring_rank(web)
            least = sum(ring_lengths(web))
            if rank > 4:
                continue
            for chosen in combinations(rings[:12], rank):
                expected = plain_independent(web, list(chosen)) and sum(len(ring) for ring in chosen) == least
                self.assertIs(is_ring_base(web, list(chosen)), expected)
            base = ring_base(web)
            for value in changed_once(base):
                right = type(value) is list and len(value) == rank and all(is_ring(web, ring) for ring in value)
                right = right and plain_independent(web, value) and sum(len(ring) for ring in value) == least
                self.assertIs(is_ring_base(web, value), right)
        for value in ANY_VALUES:
            self.assertIs(is_ring_base(whole(3), value), False)
            self.assertIs(is_ring_base(whole(3), [value]), False)
            self.assertIs(is_ring_base(([K], [], [], []), value), isinstance(value, list) and value == [])
        self.assertIs(is_ring_base(whole(3), [[0, 1, 2]]), True)
        self.assertIs(is_ring_base(whole(3), [[0, 1, 2]] * 2), False)


class OddRings(unittest.TestCase):
    def test_shortest(self):
        rng = random.Random(119)
        for web in small_webs(120, 80):
            rings = plain_rings(web)
            for _ in range(8):
                tie_set = [k for k in range(len(web[1])) if rng.random() < 0.4]
                lengths = [len(ring) for ring in rings if len(set(ring_ties(web, ring)) & set(tie_set)) % 2]
                found = odd_ring(web, tie_set)
                if lengths:
                    self.assertIs(is_ring(web, found), True)
                    self.assertIs(is_odd(ring_ties(web, found), tie_set), True)
                    self.assertEqual(len(found), min(lengths))
                else:
                    self.assertIsNone(found)
        self.assertIsNone(odd_ring(([], [], [], []), []))
        self.assertIsNone(odd_ring(whole(4), []))

    def test_great_webs(self):
        rng = random.Random(121)
        for _ in range(10):
            web = some_web(rng, 24, 30)
            tie_set = sorted(rng.sample(range(30), 12))
            found = odd_ring(web, tie_set)
            try:
                rings = rings_to(web, 24)
            except TooMany:
                continue
            odd = [len(ring) for ring in rings if is_odd(ring_ties(web, ring), tie_set)]
            self.assertEqual(found is None, not odd)
            if found:
                self.assertEqual(len(found), min(odd))


class Papers(unittest.TestCase):
    def test_papers(self):
        for web in some_webs(122, 60) + small_webs(123, 60):
            self.assertIs(is_base_paper(web, base_paper(web)), True)
        for web in small_webs(124, 60):
            self.assertTrue(plain_is_paper(web, base_paper(web), plain_rings(web)))

    def test_papers_changed_once(self):
        seen = set()
        for web in small_webs(125, 12) + [whole(4), ([K] * 3, [(0, 1, 1), (1, 2, 1)], [], [])]:
            rings = plain_rings(web)
            paper = base_paper(web)
            others = changed_once(paper)
            for k, (ring, tie_set) in enumerate(paper):
                others += [paper[:k] + [(other, tie_set)] + paper[k + 1:] for other in rings]
                others += [paper[:k] + [(ring, other)] + paper[k + 1:] for _, other in paper]
            for value in others + [paper[::-1]]:
                expected = plain_is_paper(web, value, rings)
                self.assertIs(is_base_paper(web, value), expected, value)
                seen.add(expected)
        self.assertEqual(seen, {True, False})

    def test_any_value(self):
        for value in ANY_VALUES:
            self.assertIs(is_base_paper(whole(3), value), False)
            self.assertIs(is_base_paper(whole(3), [value]), False)
            self.assertIs(is_base_paper(whole(3), [(value, [0])]), False)
            self.assertIs(is_base_paper(whole(3), [([0, 1, 2], value)]), False)
            self.assertIs(is_base_paper(([K], [], [], []), value), isinstance(value, list) and value == [])

    def test_a_ring_that_is_too_long(self):
        web = ([K] * 4, [(0, 1, 1), (0, 3, 1), (1, 2, 1), (1, 3, 1), (2, 3, 1)], [], [])
        self.assertIs(is_base_paper(web, [([0, 1, 3], [0]), ([1, 2, 3], [2])]), True)
        self.assertIs(is_base_paper(web, [([0, 1, 2, 3], [0]), ([1, 2, 3], [2])]), False)
        # Odd to a tie set behind it.
        self.assertIs(is_base_paper(web, [([0, 1, 3], [0]), ([1, 2, 3], [2, 3])]), False)
        self.assertIs(is_base_paper(web, [([1, 2, 3], [2]), ([0, 1, 3], [0, 3])]), False)
        self.assertIs(is_base_paper(web, [([0, 1, 3], [0]), ([0, 1, 3], [0])]), False)


if __name__ == "__main__":
    unittest.main()
