"""webnames.coarsest: the coarsest even colouring [53], odd parts, tables and cards [56]."""

import random
import unittest

from tests import plain
from tests.helper import same_kinds, some_numbering, some_webs
from tests.test_keys import some_colouring
from tests.test_rounds import coloured_webs
from webnames.coarsest import card_of, coarsest_even, finer_many, first_odd, table_of
from webnames.errors import NotEven, TooMany
from webnames.keys import first_colouring, is_finer
from webnames.numberings import renumbered
from webnames.rounds import is_even, refined


def all_colourings(many):
    """A colouring for each way to put so many parts into cells."""
    rows = [[]]
    for _ in range(many):
        rows = [row + [colour] for row in rows for colour in range(max(row, default=-1) + 2)]
    return rows


class Coarsest(unittest.TestCase):
    def test_by_trying(self):
        for web, colouring in coloured_webs(170, 60, 6):
            if len(web[0]) > 6:
                continue
            even = [x for x in all_colourings(len(web[0])) if is_finer(x, colouring) and is_even(web, x)]
            fewest = min(len(set(x)) for x in even)
            best = [x for x in even if len(set(x)) == fewest]
            self.assertEqual(len(best), 1)
            found = coarsest_even(web, colouring)
            self.assertEqual(found, sorted(plain.cells(best[0])))
            self.assertEqual(found, sorted(plain.cells(refined(web, colouring))))
            self.assertTrue(all(is_finer(x, refined(web, colouring)) for x in even))

    def test_six_parts_and_seven(self):
        self.assertEqual(coarsest_even(plain.ring(6), [0] * 6), [[0, 1, 2, 3, 4, 5]])
        self.assertEqual(coarsest_even(([], [], [], []), []), [])
        for web in (plain.ring(7), plain.alone(24)):
            with self.assertRaises(TooMany) as caught:
                coarsest_even(web, [0] * len(web[0]))
            self.assertEqual((caught.exception.what, caught.exception.limit), ("parts", 6))

    def test_finer_many(self):
        rng = random.Random(171)
        for many in range(8):
            for colouring in [[0] * many, list(range(many))] + [some_colouring(rng, many) for _ in range(10)]:
                finer = [x for x in all_colourings(many) if is_finer(x, colouring)]
                self.assertEqual(finer_many(colouring), len(finer))
        self.assertEqual(finer_many([0] * 24), 445958869294805289)
        self.assertEqual(finer_many([0] * 12 + [1] * 12), 4213597 ** 2)
        self.assertEqual(finer_many(list(range(24))), 1)


class Tables(unittest.TestCase):
    def test_first_odd(self):
        for web, colouring in coloured_webs(172):
            keys = [plain.key(web, colouring, part) for part in range(len(web[0]))]
            odd = [part for part in range(len(keys)) if keys[part] != keys[colouring.index(colouring[part])]]
            self.assertEqual(first_odd(web, colouring), odd[0] if odd else None)
            if odd:
                with self.assertRaises(NotEven) as caught:
                    table_of(web, colouring)
                self.assertTrue(same_kinds(caught.exception.part, odd[0]))

    def test_tables(self):
        for web, colouring in coloured_webs(173):
            colouring = refined(web, colouring)
            table = []
            for cell in plain.cells(colouring):
                rows = [(order, sided, colouring[x]) for order, sided, x in plain.ties(web, cell[-1])]
                table.append((len(cell), sorted({(*row, rows.count(row)) for row in rows})))
            self.assertTrue(same_kinds(table_of(web, colouring), table))
        double = plain.double()
        self.assertEqual(table_of(double, [0, 0, 1, 1, 1, 1]), [(2, [(1, 0, 1, 2), (2, 1, 0, 1)]), (4, [(1, 0, 0, 1)])])
        self.assertEqual(table_of(([], [], [], []), []), [])

    def test_cards(self):
        rng = random.Random(174)
        for web in plain.SHAPES + some_webs(175, 40):
            colouring = refined(web, first_colouring(web))
            keys, table = card_of(web)
            self.assertEqual(table, table_of(web, colouring))
            self.assertEqual(len(keys), len(set(colouring)))
            self.assertEqual(plain.ranks(keys + keys), [x for x in plain.ranks(keys)] * 2)
            handed = [hand[0] for hand in web[2]]
            for part, colour in enumerate(colouring):
                told = plain.ties(web, part)
                hand = 1 if part in handed else 0
                self.assertEqual(keys[colour], (*web[0][part], len(told), hand, sorted(tie[:2] for tie in told)))
            self.assertTrue(same_kinds(card_of(renumbered(web, some_numbering(rng, len(web[0])))), (keys, table)))
        rings = plain.beside(plain.ring(3), plain.ring(3))
        self.assertEqual(card_of(rings), ([("k", 0, 2, 0, [(1, 0), (1, 0)])], [(6, [(1, 0, 0, 2)])]))
        self.assertEqual(card_of(plain.ring(6)), card_of(rings))
        self.assertNotEqual(card_of(plain.row(6)), card_of(plain.ring(6)))


if __name__ == "__main__":
    unittest.main()
