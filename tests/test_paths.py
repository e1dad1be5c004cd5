"""webnames.paths: paths and paths of the tree [71], their colourings, targets and branches [8], led paths [72]."""

import random
import unittest
from itertools import permutations

from tests import plain
from tests.helper import ANY_VALUES, changed_once, some_numbering, some_webs
from webnames.keys import colouring_led
from webnames.numberings import renumbered
from webnames.paths import (
    branches_at, cells_at, colouring_at, first_leaf, is_leaf, is_path, is_tree_path, path_led, target_at, trace_at,
    traces_to,
)


def plain_is_path(web, value):
    many = len(web[0])
    return type(value) is list and all(type(x) is int and 0 <= x < many for x in value) and len(set(value)) == len(value)


def plain_is_tree_path(web, path):
    return all(path[k] in (plain.target(plain.colouring_of(web, path[:k])) or []) for k in range(len(path)))


class Questions(unittest.TestCase):
    def test_all_short_lists(self):
        for web in plain.SHAPES:
            many = len(web[0])
            if many <= 5:
                for length in range(min(many, 3) + 1):
                    for row in permutations(range(many), length):
                        self.assertIs(is_path(web, list(row)), True)
                        self.assertIs(is_path(web, tuple(row)), False)
                        self.assertIs(is_tree_path(web, list(row)), plain_is_tree_path(web, list(row)))
                        self.assertIs(is_tree_path(web, tuple(row)), False)

    def test_any_value(self):
        for web in (plain.alone(0), plain.ring(4), plain.alone(24)):
            for value in ANY_VALUES:
                right = plain_is_path(web, value)
                self.assertIs(is_path(web, value), right)
                if not right:
                    self.assertIs(is_tree_path(web, value), False)
                self.assertIs(is_path(web, [value]), plain_is_path(web, [value]))
                self.assertIs(is_tree_path(web, [value]), False)
        web = plain.alone(4)
        for value in changed_once([0, 2, 1]):
            right = plain_is_path(web, value)
            self.assertIs(is_path(web, value), right)
            self.assertIs(is_tree_path(web, value), right and plain_is_tree_path(web, value))
        for value in ([4], [-1], [True], [0, False], [0, 0], [1, 2, 1], ["0"], [None], [[0]], [(0,)], [10 ** 29], [0.0]):
            self.assertIs(is_path(web, value), False)
            self.assertIs(is_tree_path(web, value), False)

    def test_of_the_tree(self):
        # Beside the target, alone in the cell, behind a leaf.
        row = plain.row(3)
        for path, right in (([], True), ([0], True), ([2], True), ([1], False), ([0, 2], False), ([0, 1], False)):
            self.assertIs(is_tree_path(row, path), right)
            self.assertIs(is_path(row, path), True)
        self.assertIs(is_tree_path(plain.alone(4), [3, 1, 0]), True)
        self.assertIs(is_tree_path(plain.alone(4), [3, 1, 0, 2]), False)
        # The second part of the row of three is alone; what stands behind a part that is in no target is none either.
        self.assertIs(is_tree_path(plain.beside(plain.star(3), plain.row(2)), [0, 1]), False)


class Colourings(unittest.TestCase):
    def test_by_hand(self):
        rng = random.Random(210)
        for web in plain.SHAPES + some_webs(211, 30):
            for path in plain.paths_of(rng, len(web[0]), (0, 1, 1, 2, 3, 24)):
                colouring = plain.colouring_of(web, path)
                cell = plain.target(colouring)
                self.assertEqual(colouring_at(web, path), colouring)
                self.assertEqual(cells_at(web, path), plain.cells(colouring))
                self.assertEqual(trace_at(web, path), plain.trace(colouring))
                self.assertEqual(traces_to(web, path), plain.traces(web, path))
                self.assertIs(is_leaf(web, path), cell is None)
                self.assertEqual(target_at(web, path), cell)
                self.assertEqual(branches_at(web, path), [path + [part] for part in cell or []])
                leaf = list(path)
                while plain.target(plain.colouring_of(web, leaf)):
                    leaf.append(plain.target(plain.colouring_of(web, leaf))[0])
                self.assertEqual(first_leaf(web, path), leaf)

    def test_facts(self):
        rng = random.Random(212)
        for web in plain.SHAPES + some_webs(213, 30):
            path = []
            while not is_leaf(web, path):
                before = colouring_at(web, path)
                for part, colour in enumerate(before):
                    if before.count(colour) == 1 and part not in path:
                        self.assertEqual(colouring_at(web, path + [part]), before)
                path = rng.choice(branches_at(web, path))
                self.assertGreater(max(colouring_at(web, path)), max(before))
                self.assertIs(is_tree_path(web, path), True)
            self.assertTrue(len(path) < len(web[0]) or not path)
        empty = plain.alone(0)
        self.assertEqual((colouring_at(empty, []), trace_at(empty, []), traces_to(empty, [])), ([], [], [[]]))
        self.assertEqual((is_leaf(empty, []), target_at(empty, []), branches_at(empty, [])), (True, None, []))
        self.assertEqual((first_leaf(empty, []), cells_at(empty, []), path_led([], [])), ([], [], []))
        self.assertEqual(first_leaf(plain.alone(24), []), list(range(23)))
        self.assertEqual(first_leaf(plain.alone(4), [3, 0]), [3, 0, 1])

    def test_led(self):
        rng = random.Random(214)
        for web in plain.SHAPES + some_webs(215, 40):
            p = some_numbering(rng, len(web[0]))
            far = renumbered(web, p)
            for path in plain.paths_of(rng, len(web[0])):
                there = path_led(path, p)
                self.assertEqual(there, [p[x] for x in path])
                self.assertEqual(colouring_at(far, there), colouring_led(colouring_at(web, path), p))
                self.assertEqual(traces_to(far, there), traces_to(web, path))
                cell = target_at(web, path)
                self.assertEqual(target_at(far, there), cell and sorted(p[x] for x in cell))
                self.assertIs(is_tree_path(far, there), is_tree_path(web, path))


if __name__ == "__main__":
    unittest.main()
