"""webnames.least: what matches have in common, their classes and the keys of lists [126]."""

import random
import unittest

from tests import plain
from tests.helper import same_kinds, some_numbering, some_webs
from tests.test_fulltree import few_leaves
from tests.test_patterns import pattern_pairs, plain_matches
from webnames.errors import TooMany
from webnames.least import covered, held_places, least_match, list_key, match_classes
from webnames.names import pointed_form
from webnames.numberings import renumbered
from webnames.patterns import pattern_of
from webnames.symmetric import all_symmetries

ANY = ((), None)


def plain_classes(pattern, web):
    symmetries = all_symmetries(web)
    found = []
    for match in plain_matches(pattern, web):
        if not any(match in row for row in found):
            found.append(sorted(list(x) for x in {tuple(p[x] for x in match) for p in symmetries}))
    return sorted(found)


class Told(unittest.TestCase):
    def test_against_all_matches(self):
        many = set()
        for pattern, web in pattern_pairs(480, 60, 7, 4):
            found = plain_matches(pattern, web)
            self.assertTrue(same_kinds(least_match(pattern, web), found[0] if found else None))
            self.assertTrue(same_kinds(held_places(pattern, web), [list(x) for x in sorted({tuple(sorted(m)) for m in found})]))
            self.assertTrue(same_kinds(covered(pattern, web), sorted({x for match in found for x in match})))
            many.add(min(len(found), 2))
        self.assertEqual(many, {0, 1, 2})
        web = plain.row(3)
        empty = ([], [], [], [])
        self.assertEqual((least_match(empty, web), held_places(empty, web), covered(empty, web)), ([], [[]], []))
        self.assertEqual(match_classes(empty, web), [[[]]])
        none = ([((), 7)], [], [], [])
        self.assertEqual((held_places(none, web), covered(none, web), match_classes(none, web)), ([], [], []))

    def test_classes(self):
        sizes = set()
        pairs = pattern_pairs(481, 50, 6, 3)
        pairs += [(pattern_of(plain.row(2)), web) for web in (plain.cube(), plain.PETERSEN, plain.cube([1] * 8), plain.ladder(4))]
        pairs += [(pattern_of(plain.alone(2)), web) for web in (plain.ring(6), plain.beside(plain.ring(3), plain.ring(3)))]
        for pattern, web in pairs:
            found = match_classes(pattern, web)
            self.assertTrue(same_kinds(found, plain_classes(pattern, web)))
            self.assertTrue(all(row == sorted(row) for row in found + [found]))
            sizes |= {len(row) for row in found}
        self.assertTrue({1, 2, 24} <= sizes, sizes)
        # Many parts alike, and no bound for symmetries.
        self.assertEqual([len(row) for row in match_classes(([ANY] * 2, [], [], []), plain.alone(24))], [24 * 23])
        self.assertEqual(len(match_classes(([ANY] * 2, [], [], []), plain.ring(24))), 12)

    def test_too_many(self):
        free, web = ([ANY] * 3, [], [], []), plain.alone(16)
        for function in (least_match, held_places, covered, match_classes):
            with self.assertRaises(TooMany) as caught:
                function(free, web)
            self.assertEqual((caught.exception.what, caught.exception.limit), ("tables", 3000))
        self.assertEqual(least_match(free, plain.alone(15)), [0, 1, 2])


class Keys(unittest.TestCase):
    def test_equal_exactly_for_lists_that_are_led(self):
        rng = random.Random(482)
        answers = []
        for web in [web for web in few_leaves(483, 100, 50, 6) if web[0]]:
            symmetries = all_symmetries(web)
            lists = plain.paths_of(rng, len(web[0]), (1, 1, 2, 2, 3, 4))
            p = rng.choice(symmetries)
            lists = lists + [[p[x] for x in row] for row in lists]
            keys = [list_key(web, row) for row in lists]
            for row, key in zip(lists, keys):
                for other, far_key in zip(lists, keys):
                    if len(row) == len(other):
                        led = any([q[x] for x in row] == other for q in symmetries)
                        self.assertIs(key == far_key, led)
                        answers.append(led)
        self.assertGreater(answers.count(False), 300)
        self.assertGreater(answers.count(True), 300)

    def test_as_told(self):
        rng = random.Random(484)
        for web in few_leaves(485, 100, 40):
            for path in plain.paths_of(rng, len(web[0]), (0, 1, 2, 3)):
                colouring = plain.colouring_of(web, path)
                places = [len([x for x in colouring if x < colouring[part]]) for part in path]
                self.assertTrue(same_kinds(list_key(web, path), (pointed_form(web, path), places)))

    def test_keys_of_renumbered_lists(self):
        rng = random.Random(486)
        for web in some_webs(487, 30) + plain.SHAPES:
            p = some_numbering(rng, len(web[0]))
            for path in plain.paths_of(rng, len(web[0]), (0, 1, 2)):
                self.assertEqual(list_key(web, path), list_key(renumbered(web, p), [p[x] for x in path]))

    def test_matches_by_keys(self):
        for pattern, web in pattern_pairs(488, 30, 6, 3):
            keys = [{repr(list_key(web, match)) for match in row} for row in match_classes(pattern, web)]
            self.assertTrue(all(len(row) == 1 for row in keys))
            self.assertEqual(len({key for row in keys for key in row}), len(keys))


if __name__ == "__main__":
    unittest.main()
