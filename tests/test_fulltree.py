"""webnames.fulltree: leaves, their webs and keys [71] to [76], and their bound [77]."""

import random
import unittest

from tests import plain
from tests.helper import lists_in, same_kinds, some_numbering, some_webs
from webnames.errors import NoLeaf, TooMany
from webnames.fulltree import (
    best_leaves, key_counts, key_of_leaf, leaf_symmetry, leaf_web, leaf_with, least_key, leaves, leaves_below,
    tree_profile,
)
from webnames.numberings import is_pairing, renumbered
from webnames.pairings import all_numberings
from webnames.paths import colouring_at, is_leaf, path_led


def few_leaves(seed, most=200, many=60, size=24):
    """Webs whose trees have few leaves."""
    found = []
    for web in plain.SHAPES + some_webs(seed, many, size):
        try:
            if len(leaves(web)) <= most:
                found.append(web)
        except TooMany:
            pass
    return found


class Leaves(unittest.TestCase):
    def test_leaves(self):
        rng = random.Random(220)
        for web in few_leaves(221):
            for path in [[]] + plain.paths_of(rng, len(web[0]), (1, 2)):
                told = plain.leaves(web, path)
                self.assertEqual(leaves_below(web, path), [leaf for leaf, _ in told])
                self.assertEqual([leaf for leaf, _ in told], sorted(leaf for leaf, _ in told))
                keys = [plain.leaf_key(web, leaf) for leaf, _ in told]
                for (leaf, colouring), key in zip(told[:20], keys):
                    self.assertTrue(same_kinds(key_of_leaf(web, leaf), key))
                    self.assertTrue(same_kinds(leaf_web(web, leaf), renumbered(web, colouring)))
                self.assertTrue(same_kinds(least_key(web, path), min(keys)))
                self.assertEqual(best_leaves(web, path), [leaf for (leaf, _), key in zip(told, keys) if key == min(keys)])
            self.assertEqual(leaves(web), leaves_below(web, []))

    def test_counts(self):
        for web in few_leaves(222):
            keys = [plain.leaf_key(web, leaf) for leaf, _ in plain.leaves(web, [])]
            unlike = [key for k, key in enumerate(keys) if key not in keys[:k]]
            counts = key_counts(web)
            self.assertTrue(same_kinds(counts, [(key, keys.count(key)) for key in sorted(unlike)]))
            traces = [key[0] for key in keys]
            unlike = [row for k, row in enumerate(traces) if row not in traces[:k]]
            self.assertTrue(same_kinds(tree_profile(web), [(row, traces.count(row)) for row in sorted(unlike)]))
            self.assertEqual(len({many for _, many in counts}), 1)
            # Each list is told by itself.
            for found in (counts, tree_profile(web), least_key(web, [])):
                told = [id(x) for x in lists_in(found)]
                self.assertEqual(len(set(told)), len(told))

    def test_the_empty_web(self):
        empty = plain.alone(0)
        self.assertEqual((leaves(empty), leaves_below(empty, [])), ([[]], [[]]))
        self.assertEqual(least_key(empty, []), ([[]], empty))
        self.assertEqual((key_counts(empty), tree_profile(empty)), ([(([[]], empty), 1)], [([[]], 1)]))
        self.assertEqual((leaf_web(empty, []), leaf_with(empty, []), leaf_symmetry(empty, [], [])), (empty, [], []))

    def test_renumbered(self):
        rng = random.Random(223)
        for web in few_leaves(224):
            p = some_numbering(rng, len(web[0]))
            far = renumbered(web, p)
            self.assertEqual(leaves(far), sorted(path_led(leaf, p) for leaf in leaves(web)))
            self.assertEqual(key_counts(far), key_counts(web))
            self.assertEqual(tree_profile(far), tree_profile(web))
            self.assertEqual(least_key(far, []), least_key(web, []))
            leaf = rng.choice(leaves(web))
            self.assertEqual(key_of_leaf(far, path_led(leaf, p)), key_of_leaf(web, leaf))
            self.assertTrue(is_pairing(web, leaf_web(web, leaf), colouring_at(web, leaf)))

    def test_symmetries_share_keys(self):
        for web in few_leaves(225, 200, 20, 6):
            if len(web[0]) <= 6:
                symmetries = plain.pairings(web, web)
                self.assertEqual({many for _, many in key_counts(web)}, {len(symmetries)})
                self.assertEqual(len(leaves(web)) % len(symmetries), 0)


class NoLeaves(unittest.TestCase):
    def test_no_leaf(self):
        for web, path in ((plain.ring(3), []), (plain.ring(3), [1]), (plain.alone(24), [3, 5]), (plain.row(3), [1])):
            for function in (leaf_web, key_of_leaf):
                with self.assertRaises(NoLeaf) as caught:
                    function(web, path)
                self.assertEqual(caught.exception.path, path)
                self.assertIsNot(caught.exception.path, path)

    def test_leaves_besides_the_tree(self):
        # A path that is none of the tree can be a leaf, too.
        web = plain.row(5)
        for path in ([1], [0, 4], [4, 3, 2, 1, 0], [2, 3]):
            self.assertIs(is_leaf(web, path), True)
            self.assertTrue(same_kinds(leaf_web(web, path), renumbered(web, plain.colouring_of(web, path))))
            self.assertTrue(same_kinds(key_of_leaf(web, path), plain.leaf_key(web, path)))
            self.assertEqual(leaves_below(web, path), [path])
            self.assertEqual(best_leaves(web, path), [path])

    def test_first_of_path_then_of_far(self):
        web = plain.ring(4)
        for path, far, wrong in (([0], [1], [0]), ([0], [1, 2], [0]), ([1, 2], [0], [0]), ([], [3], []), ([1, 2], [], [])):
            with self.assertRaises(NoLeaf) as caught:
                leaf_symmetry(web, path, far)
            self.assertEqual(caught.exception.path, wrong)


class Bounds(unittest.TestCase):
    def test_5040_and_more(self):
        seven = plain.beside(plain.alone(7), plain.row(2, ("a", 0), (2,)))
        self.assertEqual(len(leaves(plain.alone(7))), 5040)
        self.assertEqual(key_counts(plain.alone(7)), [((plain.traces(plain.alone(7), list(range(6))), plain.alone(7)), 5040)])
        self.assertEqual(len(best_leaves(plain.alone(7), [])), 5040)
        self.assertEqual(len(leaves_below(plain.alone(24), list(range(17)))), 5040)
        self.assertEqual(tree_profile(plain.alone(7))[0][1], 5040)
        for web in (seven, plain.alone(8), plain.alone(24), plain.beside(*[plain.ring(3)] * 8)):
            for call in (lambda: leaves(web), lambda: leaves_below(web, []), lambda: least_key(web, []),
                         lambda: best_leaves(web, []), lambda: key_counts(web), lambda: tree_profile(web)):
                with self.assertRaises(TooMany) as caught:
                    call()
                self.assertEqual((caught.exception.what, caught.exception.limit), ("leaves", 5040))
        for call in (leaves_below, least_key, best_leaves):
            with self.assertRaises(TooMany):
                call(plain.alone(24), list(range(16)))
        self.assertEqual(len(leaves_below(seven, [0])), 1440)
        # These look at one path only.
        self.assertEqual(leaf_web(plain.alone(24), list(range(23))), plain.alone(24))
        self.assertEqual(leaf_with(plain.alone(24), list(range(24))), list(range(23)))
        last = list(range(23))
        self.assertEqual(leaf_symmetry(plain.alone(24), last, last[::-1]), list(range(23))[::-1] + [23])


class FromColourings(unittest.TestCase):
    def test_leaf_with(self):
        for web in few_leaves(226, 200, 20, 5):
            if len(web[0]) <= 5:
                told = {tuple(colouring): leaf for leaf, colouring in plain.leaves(web, [])}
                self.assertEqual(len(told), len(leaves(web)))
                for numbering in all_numberings(len(web[0])):
                    self.assertEqual(leaf_with(web, numbering), told.get(tuple(numbering)))
        rng = random.Random(227)
        for web in few_leaves(228):
            for leaf, colouring in rng.sample(plain.leaves(web, []), 1):
                self.assertEqual(leaf_with(web, colouring), leaf)
                far = list(colouring)
                a, b = (rng.randrange(len(far)) for _ in range(2)) if far else (0, 0)
                if a != b:
                    far[a], far[b] = far[b], far[a]
                    known = [x for x, y in plain.leaves(web, []) if y == far]
                    self.assertEqual(leaf_with(web, far), known[0] if known else None)

    def test_leaf_symmetry(self):
        rng = random.Random(229)
        seen = set()
        for web in few_leaves(230):
            told = plain.leaves(web, [])
            for _ in range(6):
                (path, first), (far, second) = rng.choice(told), rng.choice(told)
                expected = [second.index(colour) for colour in first]
                alike = renumbered(web, first) == renumbered(web, second)
                self.assertEqual(leaf_symmetry(web, path, far), expected if alike else None)
                if alike:
                    self.assertIs(is_pairing(web, web, expected), True)
                    self.assertEqual(path_led(path, expected), far)
                    self.assertEqual(key_of_leaf(web, path), key_of_leaf(web, far))
                seen.add(alike)
        self.assertEqual(seen, {True, False})


if __name__ == "__main__":
    unittest.main()
