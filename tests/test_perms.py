"""webnames.perms: moves, their shapes, orders and powers [21], and conjugates [22]."""

import random
import unittest

from tests.helper import NOT_COUNTS, all_of, some_numbering
from webnames.errors import InvalidMany, InvalidRound
from webnames.numberings import back, rounds, then
from webnames.perms import compose, conjugate, conjugator, from_rounds, order_of, power, powers, shape


def some_numberings(seed):
    rng = random.Random(seed)
    return all_of(4) + [some_numbering(rng, many) for many in range(25) for _ in range(3)]


class Moves(unittest.TestCase):
    def test_compose(self):
        rng = random.Random(30)
        for many in range(25):
            numberings = [some_numbering(rng, many) for _ in range(rng.randrange(5))]
            done = compose(many, numberings)
            for part in range(many):
                at = part
                for numbering in numberings:
                    at = numbering[at]
                self.assertEqual(done[part], at)
        self.assertEqual(compose(3, []), [0, 1, 2])
        self.assertEqual(compose(0, [[]]), [])

    def test_shape(self):
        for p in some_numberings(31):
            self.assertEqual(shape(p), sorted(len(row) for row in rounds(p)))
            self.assertEqual(sum(shape(p)), len(p))

    def test_order_and_powers(self):
        most = from_rounds(24, [[0, 1, 2], [3, 4, 5, 6, 7], [8, 9, 10, 11, 12, 13, 14], list(range(15, 23))])
        self.assertEqual(order_of(most), 840)
        self.assertEqual(order_of([]), 1)
        for p in some_numberings(32) + [most]:
            row = [list(range(len(p)))]
            while then(row[-1], p) != row[0]:
                row.append(then(row[-1], p))
            self.assertEqual(order_of(p), len(row))
            self.assertEqual(powers(p), row)
            for exponent in (*range(-4, 5), len(row), -len(row), 10 ** 29 + 7, -(10 ** 29)):
                self.assertEqual(power(p, exponent), row[exponent % len(row)])
            self.assertEqual(power(p, -3), back(power(p, 3)))

    def test_from_rounds(self):
        rng = random.Random(33)
        for p in some_numberings(34):
            rows = [row[k:] + row[:k] for row in rounds(p) for k in [rng.randrange(len(row))]]
            rng.shuffle(rows)
            self.assertEqual(from_rounds(len(p), rows), p)
            self.assertEqual(from_rounds(len(p), [[]] + [row for row in rows if len(row) > 1] + [[]]), p)
        self.assertEqual(from_rounds(4, [[3, 0, 1]]), [1, 3, 2, 0])
        self.assertEqual(from_rounds(3, []), [0, 1, 2])
        self.assertEqual(from_rounds(0, [[], []]), [])

    def test_invalid_rounds(self):
        for rows, place, value in (
            ([[0, 1], [2, 3]], 1, 3), ([[0, -1]], 0, -1), ([[0, 0]], 0, 0), ([[], [0], [1, 0, 9]], 2, 0),
            ([[1], [9, 1]], 1, 9), ([[10 ** 29]], 0, 10 ** 29), ([[0], [True]], 1, True), ([[0], ["1"]], 1, "1"),
        ):
            with self.assertRaises(InvalidRound) as caught:
                from_rounds(3, rows)
            self.assertEqual((caught.exception.place, caught.exception.value), (place, value))
            self.assertIs(type(caught.exception.value), type(value))

    def test_many(self):
        for many in NOT_COUNTS + [25, 10 ** 29]:
            for asked in (lambda: compose(many, []), lambda: from_rounds(many, []), lambda: from_rounds(many, [[-1]])):
                with self.assertRaises(InvalidMany):
                    asked()
        self.assertEqual(compose(24, []), list(range(24)))


class Conjugates(unittest.TestCase):
    def test_conjugate(self):
        rng = random.Random(35)
        for p in some_numberings(36):
            by = some_numbering(rng, len(p))
            q = conjugate(p, by)
            for i in range(len(p)):
                self.assertEqual(q[by[i]], by[p[i]])
            found = conjugator(p, q)
            self.assertEqual(conjugate(p, found), q)

    def test_conjugator_exactly_for_equal_shapes(self):
        for p in all_of(4):
            for q in all_of(4):
                found = conjugator(p, q)
                there = [by for by in all_of(4) if conjugate(p, by) == q]
                self.assertEqual(found is not None, shape(p) == shape(q))
                self.assertEqual(found in there, bool(there))
        self.assertEqual(conjugator([], []), [])


if __name__ == "__main__":
    unittest.main()
