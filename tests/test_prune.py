"""webnames.prune: kept orbits, what is spared [82], and what is later [81]."""

import random
import unittest

from tests.helper import group_of, same_kinds, some_groups, some_numbering
from webnames.prune import is_later, kept_orbit, led, spared_at


def plain_kept_orbit(numberings, path, part):
    keep = [p for p in numberings if all(p[x] == x for x in path)]
    orbit = {part}
    while True:
        more = {p[x] for p in keep for x in orbit} - orbit
        if not more:
            return sorted(orbit)
        orbit |= more


def some_lists(seed):
    """Lists of numberings, some of which keep parts, with paths."""
    rng = random.Random(seed)
    for many, numberings in some_groups(seed):
        if many:
            for length in (0, 0, 1, 2, 3, many):
                yield many, numberings, rng.sample(range(many), min(many, length))
    for many in (4, 6, 24):
        for _ in range(30):
            numberings = []
            for _ in range(rng.randrange(6)):
                moving = rng.sample(range(many), rng.choice([2, 3, 4]))
                p = list(range(many))
                for a, b in zip(moving, moving[1:] + moving[:1]):
                    p[a] = b
                numberings.append(p)
            yield many, numberings, rng.sample(range(many), rng.randrange(5))


class Prune(unittest.TestCase):
    def test_kept_orbits(self):
        for many, numberings, path in some_lists(250):
            for part in range(many):
                self.assertEqual(kept_orbit(numberings, path, part), plain_kept_orbit(numberings, path, part))
        self.assertEqual(kept_orbit([], [], 3), [3])
        # A numbering that keeps the path only by two steps is not one that keeps it.
        self.assertEqual(kept_orbit([[1, 0, 3, 2]], [0], 2), [2])

    def test_led(self):
        for many, numberings, path in some_lists(251):
            keep = [p for p in numberings if all(p[x] == x for x in path)]
            rng = random.Random(many)
            for _ in range(6):
                first, second = rng.randrange(many), rng.randrange(many)
                found = led(many, numberings, path, first, second)
                if second in plain_kept_orbit(numberings, path, first):
                    self.assertEqual(found[first], second)
                    self.assertEqual(sorted(found), list(range(many)))
                    self.assertTrue(all(found[x] == x for x in path))
                    if many <= 6:
                        self.assertIn(tuple(found), group_of(many, keep))
                else:
                    self.assertIsNone(found)
        self.assertEqual(led(3, [], [], 1, 1), [0, 1, 2])
        self.assertIsNone(led(3, [], [], 1, 2))
        self.assertEqual(led(3, [[1, 2, 0]], [], 0, 2), [2, 0, 1])
        # Both lead 0 to 1, but only the second one keeps 2.
        self.assertEqual(led(4, [[1, 0, 3, 2], [1, 0, 2, 3]], [2], 0, 1), [1, 0, 2, 3])

    def test_led_is_new(self):
        numberings = [[1, 0, 2]]
        found = led(3, numberings, [], 0, 1)
        found.append(9)
        self.assertEqual((numberings, led(3, numberings, [], 0, 1)), ([[1, 0, 2]], [1, 0, 2]))

    def test_spared(self):
        seen = set()
        for many, numberings, path in some_lists(252):
            for start in range(len(path) + 2):
                places = [i for i in range(start, len(path))
                          if plain_kept_orbit(numberings, path[:i], path[i])[0] < path[i]]
                found = spared_at(numberings, path, start)
                self.assertTrue(same_kinds(found, places[0] if places else None))
                seen.add(found)
        self.assertTrue({None, 0, 1, 2} <= seen)
        swap = [[1, 0, 2], [0, 2, 1]]
        self.assertEqual([spared_at(swap, [1, 2], k) for k in range(3)], [0, None, None])
        self.assertEqual([spared_at(swap, [0, 2], k) for k in range(3)], [1, 1, None])
        self.assertIsNone(spared_at([], [2, 1, 0], 0))

    def test_later(self):
        for traces, best, right in (
            ([], [], False), ([], [[3]], False), ([[3]], [[3]], False), ([[3], [1, 2]], [[3], [1, 1, 1]], True),
            ([[3], [1, 1, 1]], [[3], [1, 2]], False), ([[3], [1, 2]], [[3]], True), ([[3]], [[3], [1, 2]], False),
            ([[2, 1]], [[1, 2], [9]], True), ([[1, 2]], [[2, 1]], False), ([[4], [1, 3]], [[4], [1, 3], [1, 1, 2]], False),
            ([[4], [2, 2]], [[4], [1, 3], [1, 1, 2]], True), ([[1, 1]], [[1]], True), ([[1]], [[1, 1]], False),
        ):
            self.assertIs(is_later(traces, best), right)
        rng = random.Random(253)
        for _ in range(300):
            one, two = ([[rng.randrange(3) for _ in range(rng.randrange(3))] for _ in range(rng.randrange(4))] for _ in "ab")
            self.assertIs(is_later(one, two), one > two[:len(one)])

    def test_straight_ones_change_nothing(self):
        rng = random.Random(254)
        for many in range(1, 10):
            numberings = [some_numbering(rng, many) for _ in range(2)]
            for part in range(many):
                more = [list(range(many))] + numberings
                self.assertEqual(kept_orbit(more, [], part), kept_orbit(numberings, [], part))


if __name__ == "__main__":
    unittest.main()
