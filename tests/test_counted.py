"""webnames.counted: families counted [154], by ties [155], and whole ones [156], without making any."""

import random
import unittest
from itertools import combinations, combinations_with_replacement, permutations, product
from math import comb, factorial

from tests.helper import NOT_COUNTS, same_kinds
from webnames.counted import cycle_kinds, family_count, family_row, pair_cycles, plain_family_count, whole_count
from webnames.errors import InvalidMany, TooMany
from webnames.numberings import rounds

C, O, N = ("c", 0), ("o", 0), ("n", 1)
ORDERS = ([], [1], [3], [1, 2], [2, 4], [1, 2, 3], [1, 2, 3, 4])


def some_parts(seed, most, many=30):
    rng = random.Random(seed)
    found = [[], [C], [C] * most, [C, O] * (most // 2)]
    for _ in range(many):
        parts = [rng.choice([C, C, O, N]) for _ in range(rng.randrange(most + 1))]
        rng.shuffle(parts)
        found.append(parts)
    return found


def plain_pair_cycles(numbering):
    """The lengths of the cycles in which a numbering leads the pairs around."""
    left = set(combinations(range(len(numbering)), 2))
    found = []
    while left:
        pair = min(left)
        length = 0
        while pair in left:
            left.remove(pair)
            length += 1
            pair = tuple(sorted((numbering[pair[0]], numbering[pair[1]])))
        found.append(length)
    return sorted(found)


def plain_row(parts, orders):
    """The row of a family: all choices of ties, by their least renumbered form."""
    many = len(parts)
    pairs = list(combinations(range(many), 2))
    keeping = [p for p in permutations(range(many)) if all(parts[p[a]] == parts[a] for a in range(many))]
    leasts = set()
    for choice in product([0, *orders], repeat=len(pairs)):
        told = dict(zip(pairs, choice))
        leasts.add(min(tuple(told[tuple(sorted((p[a], p[b])))] for a, b in pairs) for p in keeping))
    row = [0] * (len(pairs) + 1)
    for least in leasts:
        row[len([order for order in least if order])] += 1
    return row, leasts, pairs


def plain_whole(parts, orders):
    row, leasts, pairs = plain_row(parts, orders)
    number = 0
    for least in leasts:
        met = {0} if parts else set()
        for _ in parts:
            met |= {x for pair, order in zip(pairs, least) if order and set(pair) & met for x in pair}
        number += len(met) == len(parts)
    return number


class Cycles(unittest.TestCase):
    def test_kinds(self):
        for many in range(8):
            expected = {}
            for p in permutations(range(many)):
                lengths = tuple(sorted(len(row) for row in rounds(list(p))))
                expected[lengths] = expected.get(lengths, 0) + 1
            told = [(list(lengths), number) for lengths, number in sorted(expected.items())]
            self.assertTrue(same_kinds(cycle_kinds(many), told))
            self.assertEqual(sum(number for _, number in cycle_kinds(many)), factorial(many))
        for many in NOT_COUNTS + [8, 24]:
            with self.assertRaises(InvalidMany) as caught:
                cycle_kinds(many)
            self.assertTrue(same_kinds(caught.exception.value, many))

    def test_pairs(self):
        rng = random.Random(560)
        for many in range(8):
            for p in [list(range(many))] + [rng.sample(range(many), many) for _ in range(40)]:
                lengths = [len(row) for row in rounds(p)]
                rng.shuffle(lengths)
                self.assertTrue(same_kinds(pair_cycles(lengths), plain_pair_cycles(p)), lengths)
        self.assertEqual((pair_cycles([]), pair_cycles([1]), pair_cycles([2]), pair_cycles([7])), ([], [], [1], [7, 7, 7]))


class Counts(unittest.TestCase):
    def test_against_all_choices(self):
        for parts in some_parts(561, 4, 20):
            for orders in ORDERS:
                if (len(orders) + 1) ** comb(len(parts), 2) <= 1000:
                    row = plain_row(parts, orders)[0]
                    self.assertTrue(same_kinds(family_row(parts, orders), row))
                    self.assertTrue(same_kinds(family_count(parts, orders), sum(row)))
                    self.assertTrue(same_kinds(plain_family_count(parts, orders), sum(row)))
                    self.assertTrue(same_kinds(whole_count(parts, orders), plain_whole(parts, orders)))
        for parts in ([C] * 5, [C, C, O, O, O], [C, O, C, N, C]):
            row = plain_row(parts, [1])[0]
            self.assertEqual((family_row(parts, [1]), whole_count(parts, [1])), (row, plain_whole(parts, [1])))

    def test_both_ways(self):
        for parts in some_parts(562, 5, 40):
            for orders in ORDERS:
                self.assertEqual(family_count(parts, orders), plain_family_count(parts, orders))

    def test_to_7_parts(self):
        for parts in some_parts(563, 7, 20):
            shuffled = list(parts)
            random.Random(1).shuffle(shuffled)
            for orders in ORDERS:
                row = family_row(parts, orders)
                self.assertEqual(len(row), len(parts) * (len(parts) - 1) // 2 + 1)
                self.assertEqual(sum(row), family_count(parts, orders))
                self.assertTrue(0 <= whole_count(parts, orders) <= sum(row))
                self.assertEqual(family_row(shuffled, orders), row)
                self.assertEqual(whole_count(shuffled, orders), whole_count(parts, orders))
                # With all pairs tied there are the more the more orders; with none tied one.
                self.assertEqual(row[0], 1)
        # Known numbers: graphs, and whole ones, of 0 to 7 like parts.
        self.assertEqual([family_count([C] * n, [1]) for n in range(8)], [1, 1, 2, 4, 11, 34, 156, 1044])
        self.assertEqual([whole_count([C] * n, [2]) for n in range(8)], [1, 1, 1, 2, 6, 21, 112, 853])
        self.assertEqual(family_row([C] * 6, [1]), [1, 1, 2, 5, 9, 15, 21, 24, 24, 21, 15, 9, 5, 2, 1, 1])
        unlike = [(kind, 0) for kind in "abcdefg"]
        self.assertEqual(family_count(unlike, [1, 2, 3, 4]), 5 ** 21)
        self.assertEqual([whole_count(unlike[:n], [1]) for n in range(8)], [1, 1, 1, 4, 38, 728, 26704, 1866256])
        self.assertEqual(family_row(unlike[:4], [1, 3]), [comb(6, t) * 2 ** t for t in range(7)])

    def test_bags_of_whole_webs(self):
        # [156]: all webs of some parts are the bags of whole webs whose parts together are these.
        for parts in ([C] * 4, [C, C, O], [C, O, O, O], [C, C, O, O], [C, O, N], [C] * 5):
            for orders in ([1], [1, 2]):
                whole = {}
                for size in range(1, len(parts) + 1):
                    for some in combinations(range(len(parts)), size):
                        bag = tuple(sorted(parts[place] for place in some))
                        whole[bag] = whole_count(list(bag), orders)
                webs = [(bag, number) for bag in sorted(whole) for number in range(whole[bag])]
                bags = 0
                for size in range(1, len(parts) + 1):
                    if comb(len(webs) + size - 1, size) > 200000:
                        continue
                    for some in combinations_with_replacement(webs, size):
                        bags += sorted(part for bag, _ in some for part in bag) == sorted(parts)
                if comb(len(webs) + len(parts) - 1, len(parts)) <= 200000:
                    self.assertEqual(bags, family_count(parts, orders))

    def test_no_orders(self):
        for parts in some_parts(564, 7, 10):
            self.assertEqual(family_count(parts, []), 1)
            self.assertEqual(whole_count(parts, []), 1 if len(parts) <= 1 else 0)
            self.assertEqual(family_row(parts, []), [1] + [0] * (len(parts) * (len(parts) - 1) // 2))

    def test_7_parts_and_8(self):
        for function, most in ((family_count, 7), (family_row, 7), (whole_count, 7), (plain_family_count, 5)):
            for parts in ([C] * (most + 1), [C, O] * 12, [C] * 24):
                with self.assertRaises(TooMany) as caught:
                    function(parts, [1, 2])
                self.assertEqual((caught.exception.what, caught.exception.limit), ("parts", most))
            function([C, O, N, C, O, N, C][:most], [1, 2])


if __name__ == "__main__":
    unittest.main()
