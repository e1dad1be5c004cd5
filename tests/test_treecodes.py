"""webnames.treecodes: codes of roots [114] and their symmetries [115], codes of trees and webs [117], [118]."""

import random
import unittest
from math import factorial

from tests import plain
from tests.helper import near, same_kinds, some_numbering, some_web
from tests.test_centres import some_tree
from tests.test_lays import plain_lay_code, plain_lays
from tests.test_pairings import with_other_signs
from webnames.centres import centres
from webnames.errors import HasRing, TooMany
from webnames.lays import lay_count, plain_code, plain_count
from webnames.numberings import renumbered
from webnames.pieces import piece_web, pieces
from webnames.symmetric import keeping_count, symmetry_count
from webnames.treecodes import least_lay, rooted_code, rooted_count, tree_code, tree_symmetry_count, web_code

K = plain.K


def few_lays(seed, many, size=8, most=200):
    """Trees with a root that has few lays: with hands and sides, with parts of one kind and of several."""
    rng = random.Random(seed)
    found = []
    while len(found) < many:
        web = some_tree(rng, rng.randrange(1, size + 1), rng.choice([3, 3, 4, 6]))
        if rng.random() < 0.5:
            web = ([K] * len(web[0]), web[1], web[2], web[3])
        root = rng.randrange(len(web[0]))
        if lay_count(web, root) <= most:
            found.append((web, root))
    return found


def sided_root(sides, far):
    """A root of two or three ties of order 2 with these sides, 0 for none, and with so many parts behind each one."""
    parts, ties, told = [K], [], []
    for place, sign in enumerate(sides):
        child = len(parts)
        parts.append(("c", 0))
        ties.append((0, child, 2))
        for _ in range(far[place]):
            ties.append((child, len(parts), 1))
            parts.append(("e", 0))
        if sign:
            told.append((0, child, sign))
    return (parts, sorted(ties), [], sorted(told))


class Roots(unittest.TestCase):
    def test_against_all_lays(self):
        seen = set()
        for web, root in few_lays(400, 300):
            codes = [plain_lay_code(web, root, lay) for lay in plain_lays(web, root)]
            self.assertTrue(same_kinds(rooted_code(web, root), min(codes)))
            self.assertEqual(rooted_count(web, root), codes.count(min(codes)))
            self.assertEqual((rooted_code(web, root), rooted_count(web, root)), (plain_code(web, root), plain_count(web, root)))
            sided = any(root in side[:2] for side in web[3])
            seen.add((sided, len(near(web)[root]) if sided else 0, codes.count(min(codes)) > 1))
        self.assertTrue({(True, 2, False), (True, 3, True), (True, 3, False), (False, 0, True)} <= seen, seen)

    def test_sides_at_the_root(self):
        # Two or three children with sides, alike or not, each with one child or two.
        seen = set()
        for sides in [(1, 1), (1, -1), (-1, -1), (1, 0), (0, -1), (1, 1, 1), (1, -1, 1), (-1, -1, 1), (0, 1, -1), (1, 0, 0)]:
            for far in [(1, 1, 1), (2, 2, 2), (1, 2, 1), (2, 1, 2), (2, 2, 1)]:
                for sign in (0, 1, -1):
                    web = sided_root(sides, far=far)
                    if len(sides) == 3 and sign:
                        web = (web[0], web[1], [(0, sign)], web[3])
                    elif sign:
                        continue
                    codes = [plain_lay_code(web, 0, lay) for lay in plain_lays(web, 0)]
                    self.assertEqual(rooted_code(web, 0), min(codes), web)
                    self.assertEqual(rooted_count(web, 0), codes.count(min(codes)))
                    self.assertEqual(rooted_count(web, 0), keeping_count(web, [0]))
                    self.assertEqual(plain_lay_code(web, 0, least_lay(web, 0)), min(codes))
                    seen.add(rooted_count(web, 0))
        self.assertTrue({1, 2, 3} <= seen, seen)

    def test_least_lays(self):
        for web, root in few_lays(401, 120, 14, 5000) + [(some_tree(random.Random(7), 24), 3)]:
            lay = least_lay(web, root)
            self.assertEqual(len(lay), len(web[0]))
            beside = near(web)
            met, queue = {root: None}, [root]
            while queue:
                part = queue.pop()
                self.assertEqual(sorted(lay[part]), [x for x in beside[part] if x != met[part]])
                for child in lay[part]:
                    met[child] = part
                    queue.append(child)
            self.assertTrue(same_kinds(plain_lay_code(web, root, lay), rooted_code(web, root)))
        far = plain.beside(plain.row(3), plain.star(3, 1))
        self.assertEqual(least_lay(far, 1), [[], [0, 2], [], [], [], [], []])
        self.assertEqual(least_lay(plain.alone(2), 1), [[], []])

    def test_symmetries_that_keep_the_root(self):
        rng = random.Random(402)
        for _ in range(60):
            web = some_tree(rng, rng.randrange(1, 25), rng.choice([3, 4, 6]))
            if rng.random() < 0.6:
                web = ([K] * len(web[0]), web[1], web[2], web[3])
            root = rng.randrange(len(web[0]))
            self.assertEqual(rooted_count(web, root), keeping_count(web, [root]))
            p = some_numbering(rng, len(web[0]))
            far = renumbered(web, p)
            self.assertTrue(same_kinds(rooted_code(far, p[root]), rooted_code(web, root)))
            self.assertEqual(rooted_count(far, p[root]), rooted_count(web, root))

    def test_codes_tell_whether_roots_are_led(self):
        # The FACT of [113] for the least codes.
        rng = random.Random(403)
        answers = set()
        for web, root in few_lays(404, 150, 7):
            p = some_numbering(rng, len(web[0]))
            other = renumbered(with_other_signs(rng, web), p)
            far = rng.choice([p[root], rng.randrange(len(p))])
            led = any(q[root] == far for q in plain.pairings(web, other))
            self.assertIs(rooted_code(web, root) == rooted_code(other, far), led)
            answers.add(led)
        self.assertEqual(answers, {True, False})

    def test_beyond_the_plain_way(self):
        wide = plain.star(6)
        wide = (wide[0] + [K] * 4, sorted(wide[1] + [(1, k, 1) for k in (7, 8, 9, 10)]), [], [])
        with self.assertRaises(TooMany):
            plain_code(wide, 0)
        self.assertEqual(rooted_count(wide, 0), factorial(5) * factorial(4))
        chain = plain.twins((1, -1, 1, 1, -1, 1))
        self.assertEqual(rooted_count(chain, 0), keeping_count(chain, [0]))

    def test_told_ones(self):
        self.assertEqual(rooted_code(plain.alone(2), 1), ("k", 0, [], 0))
        self.assertEqual(rooted_code(plain.row(2, orders=(3,)), 0), ("k", 0, [("k", 0, 3, [], 0, 0)], 0))
        # The lesser tuple of hand and side: with both, exchanging two equal branches turns both.
        parts = [("a", 0), ("b", 0), ("c", 0), K, K]
        for hand, side, least in ((1, 1, (-1, -1)), (1, -1, (-1, 1)), (-1, 1, (-1, 1)), (-1, -1, (-1, -1))):
            web = (parts, [(0, 1, 1), (1, 2, 2), (2, 3, 1), (2, 4, 1)], [(2, hand)], [(1, 2, side)])
            branch = rooted_code(web, 0)[2][0][3][0]
            self.assertEqual(branch[4:], least)
            self.assertEqual(rooted_count(web, 0), 1)
        web = (parts, [(0, 1, 1), (1, 2, 2), (2, 3, 1), (2, 4, 1)], [], [(1, 2, 1)])
        self.assertEqual((rooted_code(web, 0)[2][0][3][0][4:], rooted_count(web, 0)), ((0, -1), 1))
        self.assertEqual((rooted_code(plain.star(4, 1), 0)[3], rooted_count(plain.star(4, 1), 0)), (-1, 12))
        self.assertEqual((rooted_code(plain.star(4), 0)[3], rooted_count(plain.star(4), 0)), (0, 24))
        for sign in (1, -1):
            unlike = ([("a", 0), ("b", 0), ("c", 0), ("d", 0)], [(0, 1, 1), (0, 2, 1), (0, 3, 1)], [(0, sign)], [])
            self.assertEqual((rooted_code(unlike, 0)[3], rooted_count(unlike, 0)), (sign, 1))


class Webs(unittest.TestCase):
    def test_trees(self):
        rng = random.Random(405)
        counts = set()
        for _ in range(120):
            web = some_tree(rng, rng.randrange(1, 9), rng.choice([3, 4]))
            if rng.random() < 0.6:
                web = ([K] * len(web[0]), web[1], web[2], web[3])
            middle = centres(web, 0)
            codes = [rooted_code(web, part) for part in middle]
            for part in range(len(web[0])):
                self.assertTrue(same_kinds(tree_code(web, part), min(codes)))
            many = keeping_count(web, [middle[codes.index(min(codes))]])
            twice = len(codes) == 2 and codes[0] == codes[1]
            self.assertEqual(tree_symmetry_count(web), many * 2 if twice else many)
            self.assertEqual(tree_symmetry_count(web), symmetry_count(web))
            counts.add((len(codes), twice))
        self.assertEqual(counts, {(1, False), (2, False), (2, True)})

    def test_several_trees(self):
        rng = random.Random(406)
        for number in range(60):
            trees = [some_tree(rng, rng.randrange(1, 6), 4) for _ in range(rng.randrange(1, 4))]
            trees = trees + [renumbered(tree, some_numbering(rng, len(tree[0]))) for tree in trees[:number % 3]]
            web = plain.beside(*trees)
            web = renumbered(web, some_numbering(rng, len(web[0])))
            expected = sorted(tree_code(piece_web(web, piece), 0) for piece in pieces(web))
            self.assertTrue(same_kinds(web_code(web), expected))
            self.assertEqual(tree_symmetry_count(web), symmetry_count(web))

    def test_many_alike_ones(self):
        for web in (plain.alone(24), plain.beside(*[plain.row(2)] * 12), plain.beside(*[plain.star(3, 1)] * 6),
                    plain.beside(*[plain.star(3)] * 3, *[plain.row(4)] * 3), plain.beside(plain.star(3, 1), plain.star(3, -1)),
                    plain.beside(*[plain.double(-1)] * 4), plain.row(24), plain.row(23), plain.alone(0), plain.star(6),
                    plain.twins((1, 1, 1, 1, 1, 1)), plain.twins((1, -1, -1, 1))):
            self.assertEqual(tree_symmetry_count(web), symmetry_count(web))
        self.assertEqual(tree_symmetry_count(plain.alone(24)), factorial(24))
        self.assertEqual((web_code(plain.alone(0)), tree_symmetry_count(plain.alone(0))), ([], 1))
        self.assertEqual(web_code(plain.alone(2)), [("k", 0, [], 0)] * 2)


class Rings(unittest.TestCase):
    def test_rings(self):
        web = plain.beside(plain.row(3), plain.ring(4), plain.star(6), plain.ring(3))
        for function in (rooted_code, rooted_count, least_lay, tree_code):
            for part, first in ((3, 3), (5, 3), (6, 3), (14, 14), (16, 14)):
                with self.assertRaises(HasRing) as caught:
                    function(web, part)
                self.assertEqual(caught.exception.part, first)
            for part in (0, 2, 7, 13):
                function(web, part)
        for function in (web_code, tree_symmetry_count):
            with self.assertRaises(HasRing) as caught:
                function(web)
            self.assertEqual(caught.exception.part, 3)
        rng = random.Random(407)
        for _ in range(40):
            web = some_web(rng, 9, 9, bare=True)
            wrong = [piece for piece in pieces(web) if len(piece_web(web, piece)[1]) != len(piece) - 1]
            for function in (web_code, tree_symmetry_count):
                if wrong:
                    with self.assertRaises(HasRing) as caught:
                        function(web)
                    self.assertEqual(caught.exception.part, wrong[0][0])
                else:
                    function(web)


if __name__ == "__main__":
    unittest.main()
