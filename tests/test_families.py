"""webnames.families: families the plain way [152] and grown [153], and what is of one [157]."""

import random
import unittest
from itertools import combinations, product

from tests import plain
from tests.helper import same_kinds, some_numbering, some_web
from tests.test_counted import C, N, O, ORDERS, some_parts
from webnames.counted import family_count, family_row, whole_count
from webnames.errors import TooMany
from webnames.families import all_choices, family, grown, is_of_family, plain_family
from webnames.mirrors import bare
from webnames.names import form, is_form
from webnames.numberings import renumbered
from webnames.pieces import pieces
from webnames.webs import is_web


def plain_choices(parts, orders):
    pairs = list(combinations(range(len(parts)), 2))
    found = []
    for choice in product([0, *orders], repeat=len(pairs)):
        found.append((list(parts), [(*pair, order) for pair, order in zip(pairs, choice) if order], [], []))
    return sorted(found)


class Choices(unittest.TestCase):
    def test_all(self):
        for parts in some_parts(570, 4, 15):
            for orders in ORDERS:
                if (len(orders) + 1) ** (len(parts) * (len(parts) - 1) // 2) <= 800:
                    self.assertTrue(same_kinds(all_choices(parts, orders), plain_choices(parts, orders)))
        self.assertEqual(len(all_choices([C] * 4, [1, 2, 4])), 4096)
        self.assertEqual(all_choices([], [1, 2, 3, 4]), [([], [], [], [])])
        # In the sequence told.
        self.assertEqual(all_choices([O, C], [2]), [([O, C], [], [], []), ([O, C], [(0, 1, 2)], [], [])])

    def test_too_many(self):
        for function in (all_choices, lambda parts, orders: plain_family(parts, orders, True)):
            for parts, orders, what, limit in (([C] * 5, [], "parts", 4), ([C] * 24, [1, 2, 3, 4], "parts", 4),
                                               ([C] * 4, [1, 2, 3, 4], "choices", 5000), ([C, O, N, C], [1, 2, 3, 4], "choices", 5000)):
                with self.assertRaises(TooMany) as caught:
                    function(parts, orders)
                self.assertEqual((caught.exception.what, caught.exception.limit), (what, limit))

    def test_grown(self):
        rng = random.Random(571)
        for number in range(40):
            web = some_web(rng, rng.randrange(5), 5, ("c", "o"), True)
            part = rng.choice([C, O, N])
            orders = ORDERS[number % 7]
            many = len(web[0])
            expected = []
            for choice in product([0, *orders], repeat=many):
                ties = sorted(web[1] + [(a, many, order) for a, order in enumerate(choice) if order])
                expected.append((web[0] + [part], ties, [], []))
            self.assertTrue(same_kinds(grown(web, part, orders), sorted(expected)))
            self.assertEqual(len(grown(web, part, orders)), (len(orders) + 1) ** many)


class Families(unittest.TestCase):
    def test_both_ways_and_counts(self):
        for parts in some_parts(572, 4, 14):
            for orders in ORDERS:
                if (len(orders) + 1) ** (len(parts) * (len(parts) - 1) // 2) > 800:
                    continue
                whole = []
                for is_whole in (False, True):
                    found = family(parts, orders, is_whole)
                    self.assertTrue(same_kinds(found, plain_family(parts, orders, is_whole)))
                    self.assertEqual(found, sorted(found))
                    whole.append(found)
                self.assertEqual(whole[1], [web for web in whole[0] if len(pieces(web)) <= 1])
                self.assertEqual(len(whole[0]), family_count(parts, orders))
                self.assertEqual(len(whole[1]), whole_count(parts, orders))
                self.assertEqual(len(whole[0]), len({repr(web) for web in whole[0]}))
                # Of each class of all choices just its form stands there.
                forms = {repr(form(web)) for web in plain_choices(parts, orders)}
                self.assertEqual({repr(web) for web in whole[0]}, forms)
                row = [0] * (len(parts) * (len(parts) - 1) // 2 + 1)
                for web in whole[0]:
                    self.assertIs(is_web(web), True)
                    row[len(web[1])] += 1
                self.assertEqual(row, family_row(parts, orders))

    def test_5_parts(self):
        for parts in ([C] * 5, [C, O, C, O, C], [N, C, O, C, C], [C, O, C, O, N]):
            for orders in ([], [1], [4]):
                found = family(parts, orders, False)
                self.assertEqual(len(found), family_count(parts, orders))
                self.assertEqual(len(family(parts, orders, True)), whole_count(parts, orders))
                self.assertEqual(len({repr(web) for web in found}), len(found))
                self.assertTrue(all(is_form(web) for web in found[::9]))
                self.assertTrue(all(sorted(web[0]) == sorted(parts) for web in found))
                self.assertTrue(all(is_of_family(parts, orders, False, web) for web in found))

    def test_the_least(self):
        none = ([], [], [], [])
        for is_whole in (False, True):
            for orders in ORDERS:
                self.assertEqual(family([], orders, is_whole), [none])
                self.assertEqual(plain_family([], orders, is_whole), [none])
                self.assertEqual(family([O], orders, is_whole), [([O], [], [], [])])
        self.assertEqual(family([O, C], [], True), [])
        self.assertEqual(family([O, C], [3], True), [([C, O], [(0, 1, 3)], [], [])])

    def test_too_many(self):
        four, five = [(kind, 0) for kind in "abcd"], [(kind, 0) for kind in "abcde"]
        for parts, orders, what, limit in (
            ([C] * 6, [], "parts", 5), ([C] * 24, [1, 2], "parts", 5), ([C] * 5, [1, 2], "parts", 4), (five, [1, 2], "parts", 4),
            (five, [1, 2, 3, 4], "parts", 4), (five, [1], "webs", 1000), (four, [1, 2, 3], "webs", 1000),
            (four, [1, 2, 3, 4], "webs", 1000), ([C, C, O, N], [1, 2, 3], "webs", 1000),
        ):
            for is_whole in (False, True):
                with self.assertRaises(TooMany) as caught:
                    family(parts, orders, is_whole)
                self.assertEqual((caught.exception.what, caught.exception.limit), (what, limit), (parts, orders))
        # 1,024 webs, of which 728 are whole; 900, and 729.
        self.assertEqual((family_count(five, [1]), whole_count(five, [1])), (1024, 728))
        self.assertEqual((len(family([C] * 4, [1, 2, 3, 4], False)), len(family(four, [1, 2], False))), (900, 729))


class OfFamily(unittest.TestCase):
    def test_members_and_others(self):
        rng = random.Random(573)
        answers = []
        families = {}
        for _ in range(60):
            parts = [rng.choice([C, C, O]) for _ in range(rng.randrange(5))]
            orders = rng.choice(ORDERS)
            is_whole = rng.random() < 0.5
            if family_count(parts, orders) > 300:
                continue
            forms = {repr(web) for web in family(parts, orders, is_whole)}
            families[repr((parts, orders, is_whole))] = (parts, orders, is_whole, forms)
        webs = []
        for _ in range(60):
            web = some_web(rng, rng.randrange(5), 6, ("c", "o"), rng.random() < 0.7, (1, 1, 2, 3))
            webs.append(([(kind, 0) for kind, _ in web[0]], *web[1:]))
        for parts, orders, is_whole, forms in families.values():
            for web in webs:
                web = renumbered(web, some_numbering(rng, len(web[0])))
                expected = repr(form(web)) in forms
                self.assertIs(is_of_family(parts, orders, is_whole, web), expected)
                answers.append(expected)
        self.assertGreater(answers.count(True), 40)

    def test_any_number_of_parts(self):
        ring = plain.ring(24)
        self.assertIs(is_of_family(ring[0], [1], True, ring), True)
        self.assertIs(is_of_family(ring[0], [1, 4], False, ring), True)
        self.assertIs(is_of_family(ring[0], [2], False, ring), False)
        self.assertIs(is_of_family(ring[0][1:], [1], False, ring), False)
        self.assertIs(is_of_family(ring[0] + [plain.K], [1], False, ring), False)
        two = plain.beside(plain.ring(12), plain.ring(12))
        self.assertIs(is_of_family(ring[0], [1], False, two), True)
        self.assertIs(is_of_family(ring[0], [1], True, two), False)
        cube = plain.cube([1] * 8)
        self.assertIs(is_of_family(cube[0], [1], True, cube), False)
        self.assertIs(is_of_family(cube[0], [1], True, bare(cube)), True)
        double = plain.double()
        self.assertIs(is_of_family(double[0], [1, 2], True, double), False)
        self.assertIs(is_of_family(double[0], [1, 2], True, bare(double)), True)
        none = plain.alone(0)
        self.assertEqual([is_of_family([], [], whole, none) for whole in (True, False)], [True, True])
        self.assertIs(is_of_family([], [], True, plain.alone(1)), False)
        self.assertIs(is_of_family([("k", 0), ("a", 0)], [], False, ([("a", 0), ("k", 0)], [], [], [])), True)
        self.assertIs(is_of_family([("k", 0), ("a", 0)], [], False, ([("a", 0), ("k", 1)], [], [], [])), False)


if __name__ == "__main__":
    unittest.main()
