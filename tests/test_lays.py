"""webnames.lays: roots, lays [112], codes [113], the least code and how many lays have it [114], [115]."""

import random
import unittest
from itertools import permutations, product
from math import factorial

from tests import plain
from tests.helper import near, same_kinds, some_numbering
from tests.test_centres import pieces, some_tree
from webnames.errors import HasRing, TooMany
from webnames.lays import lay_code, lay_count, lays, parents, plain_code, plain_count
from webnames.numberings import is_pairing, renumbered
from webnames.symmetric import keeping_count
from webnames.webs import hand_at, side_at, tie_order


def plain_parents(web, root):
    beside = near(web)
    found = [None] * len(web[0])
    known = {root}
    for _ in web[0]:
        for a in sorted(known):
            for x in beside[a]:
                if x not in known:
                    known.add(x)
                    found[x] = a
    return found


def plain_lays(web, root):
    above = plain_parents(web, root)
    children = [[x for x in range(len(above)) if above[x] == part] for part in range(len(above))]
    return [[list(row) for row in lay] for lay in product(*[sorted(permutations(row)) for row in children])]


def plain_lay_code(web, root, lay):
    above = plain_parents(web, root)
    rows = [([] if above[part] is None else [above[part]]) + lay[part] for part in range(len(lay))]

    def branch(part):
        parent = above[part]
        side = 0
        if any(tie[:2] == (min(part, parent), max(part, parent)) for tie in web[3]):
            side = side_at(web, parent, part, [x for x in rows[parent] if x != part][0], lay[part][0])
        return (*web[0][part], tie_order(web, parent, part), [branch(x) for x in lay[part]], hand_at(web, part, rows[part]), side)

    return (*web[0][root], [branch(x) for x in lay[root]], hand_at(web, root, lay[root]))


def reading(lay, root):
    """The parts of a tree in reading sequence."""
    return [root] + [x for child in lay[root] for x in reading(lay, child)]


def trees(seed, many=40, most=8):
    rng = random.Random(seed)
    for k in range(many):
        web = some_tree(rng, 1 + k % most)
        if k % 5 == 4:
            web = plain.beside(web, some_tree(rng, 3))
        web = renumbered(web, some_numbering(rng, len(web[0])))
        yield web, rng.randrange(len(web[0]))
    for web in (plain.star(3, 1), plain.star(4, -1), plain.star(6), plain.double(), plain.double(-1), plain.twins((1, -1)),
                plain.row(4, orders=(1, 2, 1)), plain.row(7), plain.alone(3)):
        for root in range(len(web[0])):
            yield web, root


class Lays(unittest.TestCase):
    def test_lays(self):
        for web, root in trees(350):
            self.assertEqual(parents(web, root), plain_parents(web, root))
            known = plain_lays(web, root)
            self.assertEqual(lay_count(web, root), len(known))
            if len(known) <= 720:
                self.assertTrue(same_kinds(lays(web, root), known))
                self.assertEqual(known, sorted(known))

    def test_codes(self):
        for web, root in trees(351):
            known = plain_lays(web, root)[:720]
            codes = [plain_lay_code(web, root, lay) for lay in known]
            for lay, code in list(zip(known, codes))[:60]:
                self.assertTrue(same_kinds(lay_code(web, root, lay), code))
            if lay_count(web, root) <= 720:
                self.assertTrue(same_kinds(plain_code(web, root), min(codes)))
                self.assertEqual(plain_count(web, root), codes.count(min(codes)))

    def test_equal_codes(self):
        # The FACT of [113]: equal codes exactly if leading row to row is a pairing.
        seen = set()
        rng = random.Random(352)
        for web, root in trees(353, 60, 6):
            if len(pieces(web)) > 1:
                continue
            p = some_numbering(rng, len(web[0]))
            signs = ([(a, rng.choice([1, -1])) for a, _ in web[2]], [(a, b, rng.choice([1, -1])) for a, b, _ in web[3]])
            far = renumbered((web[0], web[1], *signs), p)
            one = rng.choice(plain_lays(web, root))
            for other in rng.sample(plain_lays(far, p[root]), min(6, lay_count(far, p[root]))):
                numbering = [0] * len(p)
                for a, b in zip(reading(one, root), reading(other, p[root])):
                    numbering[a] = b
                rows = all([numbering[x] for x in row] == other[numbering[part]] for part, row in enumerate(one))
                right = rows and is_pairing(web, far, numbering)
                self.assertIs(lay_code(web, root, one) == lay_code(far, p[root], other), right)
                seen.add(right)
        self.assertEqual(seen, {True, False})

    def test_symmetries_that_keep_the_root(self):
        # The FACT of [115].
        counts = set()
        for web, root in trees(354, 60, 7):
            if len(pieces(web)) == 1 and lay_count(web, root) <= 720:
                found = plain_count(web, root)
                self.assertEqual(found, keeping_count(web, [root]))
                counts.add(found)
        self.assertTrue({1, 2, 3, 12, 120} <= counts, counts)

    def test_renumbered(self):
        rng = random.Random(355)
        for web, root in trees(356):
            if lay_count(web, root) <= 720:
                p = some_numbering(rng, len(web[0]))
                far = renumbered(web, p)
                self.assertEqual(plain_code(far, p[root]), plain_code(web, root))
                self.assertEqual(plain_count(far, p[root]), plain_count(web, root))

    def test_told_ones(self):
        double = plain.double()
        self.assertEqual(parents(double, 2), [2, 0, None, 0, 1, 1])
        self.assertEqual(lay_code(double, 0, [[1, 2, 3], [4, 5], [], [], [], []]),
                         ("k", 0, [("k", 0, 2, [("k", 0, 1, [], 0, 0)] * 2, 0, 1)] + [("k", 0, 1, [], 0, 0)] * 2, 0))
        # The side at the first part besides, and at the first child.
        for lay, side in (([[1, 3, 2], [4, 5]], -1), ([[2, 1, 3], [4, 5]], 1), ([[3, 2, 1], [5, 4]], 1), ([[2, 1, 3], [5, 4]], -1)):
            code = lay_code(double, 0, lay + [[], [], [], []])
            self.assertEqual([row[5] for row in code[2] if row[2] == 2], [side])
        # Below the root the parent's row begins with a part that no lay changes.
        code = lay_code(double, 2, [[3, 1], [5, 4], [0], [], [], []])
        self.assertEqual(code[2][0][3][1], ("k", 0, 2, [("k", 0, 1, [], 0, 0)] * 2, 0, -1))
        star = plain.star(3, 1)
        self.assertEqual([lay_code(star, 0, [row, [], [], []])[3] for row in ([1, 2, 3], [2, 1, 3])], [1, -1])
        self.assertEqual(lay_code(star, 2, [[3, 1], [], [0], []]),
                         ("k", 0, [("c", 0, 1, [("k", 0, 1, [], 0, 0)] * 2, 1, 0)], 0))
        self.assertEqual((plain_count(star, 0), plain_count(plain.star(3), 0), plain_count(star, 1)), (3, 6, 1))
        self.assertEqual((lays(plain.alone(2), 1), plain_code(plain.alone(2), 1)), ([[[], []]], ("k", 0, [], 0)))


class Wrong(unittest.TestCase):
    def test_5040_and_more(self):
        seven = plain.beside(plain.star(6), plain.alone(1))
        self.assertEqual(len(lays(seven, 0)), 720)
        # 6! times 3! is 4,320, 6! times 4! is 17,280.
        wide = plain.star(6)
        wide = (wide[0] + [plain.K] * 3, sorted(wide[1] + [(1, k, 1) for k in (7, 8, 9)]), [], [])
        self.assertEqual((lay_count(wide, 0), len(lays(wide, 0))), (4320, 4320))
        self.assertEqual((plain_count(wide, 0), keeping_count(wide, [0])), (720, 720))
        more = (wide[0] + [plain.K], sorted(wide[1] + [(1, 10, 1)]), [], [])
        self.assertEqual(lay_count(more, 0), factorial(6) * factorial(4))
        greatest = plain.twins((1, 1, 1, 1, 1, 1, 1))
        for web in (more, (more[0] * 2, more[1] + [(a + 11, b + 11, order) for a, b, order in more[1]], [], [])):
            for function in (lays, plain_code, plain_count):
                with self.assertRaises(TooMany) as caught:
                    function(web, 0)
                self.assertEqual((caught.exception.what, caught.exception.limit), ("lays", 5040))
        self.assertEqual(lay_count(greatest, 0), factorial(4) * 6 ** 5 * 6)

    def test_rings(self):
        web = plain.beside(plain.row(3), plain.ring(4), plain.star(6))
        for function in (parents, lay_count, lays, plain_code, plain_count):
            for root in (3, 5, 6):
                with self.assertRaises(HasRing) as caught:
                    function(web, root)
                self.assertEqual(caught.exception.part, 3)
            function(web, 1)
        # A ring goes ahead of too many lays.
        full = plain.beside(plain.alone(2), ([plain.K] * 20, [], [], []))
        ties = [(2, k, 1) for k in range(3, 9)] + [(3, k, 1) for k in range(9, 14)] + [(9, 10, 1)]
        for function in (lays, plain_code, plain_count):
            with self.assertRaises(HasRing) as caught:
                function((full[0], sorted(ties), [], []), 9)
            self.assertEqual(caught.exception.part, 2)
            with self.assertRaises(TooMany):
                function((full[0], sorted(ties)[:-1], [], []), 9)


if __name__ == "__main__":
    unittest.main()
