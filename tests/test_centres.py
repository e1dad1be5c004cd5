"""webnames.centres: trees and their centres, both ways [111]."""

import random
import unittest

from tests import plain
from tests.helper import near, some_numbering, some_web, some_webs
from webnames.centres import centres, is_tree_shaped, plain_centres
from webnames.errors import HasRing
from webnames.numberings import renumbered


def some_tree(rng, many, most=6, hands=True):
    """A tree of so many parts, in any numbering, with hands and sides where they can be."""
    ties = [0] * many
    told = []
    for part in range(1, many):
        parent = rng.choice([x for x in range(part) if ties[x] < most])
        ties[part] += 1
        ties[parent] += 1
        told.append((parent, part, rng.choice([1, 1, 2, 2, 3])))
    parts = [rng.choice([("c", 0), ("c", 0), ("c", 1), ("n", 0)]) for _ in range(many)]
    web = (parts, sorted(told), [], [])
    if hands:
        bearers = [(a, rng.choice([1, -1])) for a in range(many) if ties[a] in (3, 4) and rng.random() < 0.8]
        sides = [(a, b, rng.choice([1, -1])) for a, b, order in web[1]
                 if order == 2 and ties[a] in (2, 3) and ties[b] in (2, 3) and rng.random() < 0.8]
        web = (parts, web[1], bearers, sides)
    return renumbered(web, some_numbering(rng, many))


def pieces(web):
    beside = near(web)
    found = []
    for part in range(len(web[0])):
        if not any(part in piece for piece in found):
            piece = {part}
            for _ in web[0]:
                piece |= {x for a in piece for x in beside[a]}
            found.append(sorted(piece))
    return found


def is_tree(web, piece):
    return len([tie for tie in web[1] if tie[0] in piece]) == len(piece) - 1


def away(web, part):
    """The distances from a part to the parts of its piece."""
    beside = near(web)
    found = {part: 0}
    for far in range(1, 25):
        for x in [x for a in list(found) for x in beside[a]]:
            found.setdefault(x, far)
    return found


class Centres(unittest.TestCase):
    def test_both_ways(self):
        rng = random.Random(340)
        counts = set()
        webs = [some_tree(rng, many) for many in list(range(1, 25)) * 2]
        webs += [plain.beside(some_tree(rng, 7), some_tree(rng, 1), some_tree(rng, 10)) for _ in range(4)]
        for web in webs + [plain.row(24), plain.row(23), plain.star(6), plain.alone(24)]:
            self.assertIs(is_tree_shaped(web), True)
            for piece in pieces(web):
                far = {part: max(away(web, part).values()) for part in piece}
                expected = [part for part in piece if far[part] == min(far.values())]
                for part in piece:
                    self.assertEqual(plain_centres(web, part), expected)
                    self.assertEqual(centres(web, part), expected)
                counts.add(len(expected))
        self.assertEqual(counts, {1, 2})

    def test_told_ones(self):
        self.assertEqual([centres(plain.row(many), 0) for many in (1, 2, 3, 4, 5)], [[0], [0, 1], [1], [1, 2], [2]])
        self.assertEqual(centres(plain.star(6), 4), [0])
        self.assertEqual(centres(plain.beside(plain.row(4), plain.row(5)), 8), [6])
        self.assertEqual(plain_centres(plain.beside(plain.row(4), plain.row(5)), 3), [1, 2])

    def test_rings(self):
        seen = set()
        for web in plain.SHAPES + some_webs(341, 60) + [plain.beside(plain.row(3), plain.ring(3), plain.row(2), plain.ring(4))]:
            told = pieces(web)
            right = [is_tree(web, piece) for piece in told]
            self.assertIs(is_tree_shaped(web), all(right))
            seen.add((any(right), all(right)))
            for piece, tree in zip(told, right):
                for part in piece:
                    for function in (plain_centres, centres):
                        if tree:
                            function(web, part)
                        else:
                            with self.assertRaises(HasRing) as caught:
                                function(web, part)
                            self.assertEqual(caught.exception.part, piece[0])
        self.assertEqual(len(seen), 4)
        self.assertIs(is_tree_shaped(plain.alone(0)), True)

    def test_ways_of_a_ring_in_few_ties(self):
        # Parts without ties beside a ring: fewer ties than parts, but no tree.
        web = plain.beside(plain.alone(5), plain.ring(3))
        self.assertIs(is_tree_shaped(web), False)
        self.assertEqual(centres(web, 2), [2])
        with self.assertRaises(HasRing) as caught:
            centres(web, 7)
        self.assertEqual(caught.exception.part, 5)
        rng = random.Random(342)
        for _ in range(50):
            web = some_web(rng, 9, 8, bare=True)
            self.assertIs(is_tree_shaped(web), len(pieces(web)) == 9 - len(web[1]))


if __name__ == "__main__":
    unittest.main()
