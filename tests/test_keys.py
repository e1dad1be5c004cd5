"""webnames.keys: first colourings [8], cells, traces, finer and kept sequences [51], colourings led [55]."""

import random
import unittest

from tests.helper import ANY_VALUES, changed_once, near, some_numbering, some_webs
from webnames.keys import (
    cells_of, colouring_led, first_colouring, is_colouring, is_discrete, is_finer, keeps_sequence, part_key, trace_of,
)
from webnames.numberings import renumbered


def some_colouring(rng, many):
    colours = rng.randrange(1, many + 1) if many else 0
    row = list(range(colours)) + [rng.randrange(colours) for _ in range(many - colours)]
    rng.shuffle(row)
    return row


class Colourings(unittest.TestCase):
    def test_is_colouring(self):
        for many, value in ((0, []), (1, [0]), (3, [0, 0, 0]), (3, [2, 0, 1]), (4, [1, 0, 1, 0])):
            self.assertIs(is_colouring(many, value), True)
        for many, value in ((0, [0]), (1, []), (1, [1]), (2, [0, 2]), (3, [1, 1, 2]), (2, [0, -1]), (2, (0, 1)),
                            (2, [False, 1]), (2, [0, True]), (2, [0, None]), (2, [0, "1"]), (2, [0, [1]]), (2, None),
                            (2, [0, 1, 1]), (2, [10 ** 29, 0])):
            self.assertIs(is_colouring(many, value), False)
        for value in ANY_VALUES:
            self.assertIs(is_colouring(2, value), False)
            self.assertIs(is_colouring(2, [0, value]), False)
            self.assertIs(is_colouring(0, value), isinstance(value, list) and value == [])
        for value in changed_once([1, 0, 2, 1]):
            right = type(value) is list and len(value) == 4 and all(type(x) is int for x in value)
            right = right and max(value) < 4 and set(value) == set(range(max(value) + 1))
            self.assertIs(is_colouring(4, value), right)

    def test_cells_and_traces(self):
        rng = random.Random(150)
        for many in range(25):
            for _ in range(5):
                colouring = some_colouring(rng, many)
                cells = cells_of(colouring)
                self.assertEqual(len(cells), len(set(colouring)))
                for colour, cell in enumerate(cells):
                    self.assertEqual(cell, [part for part in range(many) if colouring[part] == colour])
                self.assertEqual(trace_of(colouring), [len(cell) for cell in cells])
                self.assertIs(is_discrete(colouring), all(len(cell) == 1 for cell in cells))
        self.assertEqual((cells_of([]), trace_of([]), is_discrete([])), ([], [], True))

    def test_finer_and_kept(self):
        rng = random.Random(151)
        seen = set()
        for many in range(7):
            for _ in range(150):
                first, second = some_colouring(rng, many), some_colouring(rng, many)
                pairs = [(a, b) for a in range(many) for b in range(many)]
                finer = all(second[a] == second[b] for a, b in pairs if first[a] == first[b])
                kept = all(first[a] < first[b] for a, b in pairs if second[a] < second[b])
                self.assertIs(is_finer(first, second), finer)
                self.assertIs(keeps_sequence(first, second), kept)
                self.assertIs(is_finer(first, first), True)
                self.assertIs(keeps_sequence(first, first), True)
                seen.add((finer, kept))
        self.assertTrue({(True, True), (True, False), (False, False)} <= seen)
        self.assertIs(keeps_sequence([0, 0], [0, 1]), False)
        self.assertIs(is_finer([0, 0], [0, 1]), False)

    def test_led(self):
        rng = random.Random(152)
        for many in range(25):
            colouring, p = some_colouring(rng, many), some_numbering(rng, many)
            found = colouring_led(colouring, p)
            self.assertEqual([found[p[part]] for part in range(many)], colouring)


class First(unittest.TestCase):
    def test_keys(self):
        for web in some_webs(153):
            beside = near(web)
            hands = {hand[0] for hand in web[2]}
            sides = {side[:2] for side in web[3]}
            keys = []
            for part, (kind, mark) in enumerate(web[0]):
                row = sorted((order, 1 if (a, b) in sides else 0) for a, b, order in web[1] if part in (a, b))
                keys.append((kind, mark, len(beside[part]), 1 if part in hands else 0, row))
                self.assertEqual(part_key(web, part), keys[-1])
                self.assertNotIn(bool, [type(x) for x in part_key(web, part)])
            unlike = []
            for key in sorted(keys):
                if key not in unlike:
                    unlike.append(key)
            self.assertEqual(first_colouring(web), [unlike.index(key) for key in keys])
            self.assertIs(is_colouring(len(web[0]), first_colouring(web)), True)

    def test_renumbered(self):
        rng = random.Random(154)
        for web in some_webs(155, 60):
            p = some_numbering(rng, len(web[0]))
            self.assertEqual(first_colouring(renumbered(web, p)), colouring_led(first_colouring(web), p))


if __name__ == "__main__":
    unittest.main()
