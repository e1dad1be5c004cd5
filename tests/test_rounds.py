"""webnames.rounds: round keys, rounds, refining and singling [8], [52], [55], unfoldings [54]."""

import random
import unittest

from tests import plain
from tests.helper import NOT_COUNTS, same_kinds, some_numbering, some_webs
from tests.test_keys import some_colouring
from webnames.errors import InvalidMany
from webnames.keys import colouring_led, first_colouring, is_colouring, is_discrete, is_finer, keeps_sequence
from webnames.numberings import renumbered
from webnames.rounds import (
    apart_after, is_even, one_round, refined, round_key, rounds_of, singled, unfolding,
)


def coloured_webs(seed, many=60, most=24):
    """Webs with colourings: the first one, all of one colour, and any."""
    rng = random.Random(seed)
    for web in plain.SHAPES + some_webs(seed, many, most):
        size = len(web[0])
        yield web, first_colouring(web)
        yield web, [0] * size
        yield web, some_colouring(rng, size)


class Rounds(unittest.TestCase):
    def test_by_hand(self):
        for web, colouring in coloured_webs(160):
            parts = range(len(web[0]))
            for part in parts:
                self.assertEqual(round_key(web, colouring, part), plain.key(web, colouring, part))
            self.assertEqual(one_round(web, colouring), plain.after_round(web, colouring))
            self.assertEqual(refined(web, colouring), plain.refine(web, colouring))
            keys = [plain.key(web, colouring, part) for part in parts]
            even = all(keys[a] == keys[b] for a in parts for b in parts if colouring[a] == colouring[b])
            self.assertIs(is_even(web, colouring), even)
            self.assertEqual(one_round(web, colouring) == colouring, even)

    def test_told_ones(self):
        row5 = plain.row(5)
        self.assertEqual(rounds_of(row5, [0] * 5), [[0] * 5, [0, 1, 1, 1, 0], [0, 1, 2, 1, 0]])
        self.assertEqual(refined(plain.ring(6), [0] * 6), [0] * 6)
        self.assertEqual(singled(plain.ring(6), [0] * 6, 2), [2, 1, 0, 1, 2, 3])
        self.assertEqual(singled(plain.beside(plain.ring(3), plain.ring(3)), [0] * 6, 4), [2, 2, 2, 1, 0, 1])
        self.assertEqual(singled(plain.star(3), [0, 1, 1, 1], 0), [0, 1, 1, 1])
        self.assertEqual((rounds_of(([], [], [], []), []), refined(([], [], [], []), [])), ([[]], []))
        # An order, and sides, part the neighbours.
        web = ([plain.K] * 4, [(0, 1, 2), (2, 3, 1)], [], [])
        self.assertEqual(one_round(web, [0] * 4), [1, 1, 0, 0])
        web = plain.beside(plain.double(), (plain.double()[0], plain.double()[1], [], []))
        self.assertEqual(one_round(web, [0, 0, 1, 1, 1, 1] * 2), [1, 1, 2, 2, 2, 2, 0, 0, 2, 2, 2, 2])

    def test_rounds_of(self):
        for web, colouring in coloured_webs(161):
            found = rounds_of(web, colouring)
            self.assertEqual(found[0], colouring)
            for k in range(1, len(found)):
                self.assertEqual(found[k], plain.after_round(web, found[k - 1]))
                self.assertLess(max(found[k - 1]), max(found[k]))
                self.assertTrue(is_finer(found[k], found[k - 1]) and keeps_sequence(found[k], found[k - 1]))
            self.assertEqual([is_even(web, x) for x in found], [False] * (len(found) - 1) + [True])
            self.assertEqual(found[-1], refined(web, colouring))
            self.assertLessEqual(len(found) - 1, len(web[0]))

    def test_singled(self):
        for web, colouring in coloured_webs(162, 30):
            for part in range(len(web[0])):
                found = singled(web, colouring, part)
                self.assertEqual(found, plain.single(web, colouring, part))
                self.assertTrue(is_colouring(len(web[0]), found) and is_even(web, found))
                self.assertTrue(is_finer(found, colouring) and keeps_sequence(found, colouring))
                self.assertEqual(found.count(found[part]), 1)
        # A part alone in its cell: an even colouring stays.
        for web in plain.SHAPES:
            colouring = refined(web, first_colouring(web))
            for part, colour in enumerate(colouring):
                if colouring.count(colour) == 1:
                    self.assertEqual(singled(web, colouring, part), colouring)

    def test_renumbered(self):
        rng = random.Random(163)
        for web, colouring in coloured_webs(164, 60):
            p = some_numbering(rng, len(web[0]))
            other, there = renumbered(web, p), colouring_led(colouring, p)
            self.assertEqual(one_round(other, there), colouring_led(one_round(web, colouring), p))
            self.assertEqual(refined(other, there), colouring_led(refined(web, colouring), p))
            if p:
                part = rng.randrange(len(p))
                self.assertEqual(singled(other, there, p[part]), colouring_led(singled(web, colouring, part), p))

    def test_signs_do_not_matter(self):
        for web in some_webs(165, 40):
            other = (web[0], web[1], [(a, -sign) for a, sign in web[2]], [(a, b, -sign) for a, b, sign in web[3]])
            colouring = first_colouring(web)
            self.assertEqual(refined(other, colouring), refined(web, colouring))


class ApartAfter(unittest.TestCase):
    def test_apart_after(self):
        for web, colouring in coloured_webs(166, 20, 9):
            found = [colouring]
            while not is_discrete(found[-1]) and plain.after_round(web, found[-1]) != found[-1]:
                found.append(plain.after_round(web, found[-1]))
            for a in range(len(web[0])):
                for b in range(len(web[0])):
                    apart = [k for k, row in enumerate(found) if row[a] != row[b]]
                    self.assertEqual(apart_after(web, colouring, a, b), apart[0] if apart else None)
        self.assertEqual(apart_after(plain.row(7), [0] * 7, 2, 3), 3)
        self.assertEqual(apart_after(plain.row(2), [1, 0], 0, 1), 0)
        self.assertIsNone(apart_after(plain.row(2), [1, 0], 1, 1))


class Unfoldings(unittest.TestCase):
    def test_unfolding(self):
        def unfolded(web, colouring, part, many):
            if many == 0:
                return (colouring[part], [])
            rows = [(order, sided, unfolded(web, colouring, x, many - 1)) for order, sided, x in plain.ties(web, part)]
            return (colouring[part], sorted(rows))

        for web, colouring in coloured_webs(167, 20, 10):
            colourings = [colouring]
            for _ in range(3):
                colourings.append(plain.after_round(web, colourings[-1]))
            for many in range(4):
                rows = [unfolding(web, colouring, part, many) for part in range(len(web[0]))]
                self.assertEqual(rows, [unfolded(web, colouring, part, many) for part in range(len(web[0]))])
                # The FACT of [54].
                for a, colour in enumerate(colourings[many]):
                    for b, far in enumerate(colourings[many]):
                        self.assertEqual(colour == far, rows[a] == rows[b])

    def test_many(self):
        for many in NOT_COUNTS + [4, 24]:
            with self.assertRaises(InvalidMany) as caught:
                unfolding(plain.row(3), [0, 0, 0], 1, many)
            self.assertTrue(same_kinds(caught.exception.value, many))


if __name__ == "__main__":
    unittest.main()
