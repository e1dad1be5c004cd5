"""webnames.sympapers: symmetry papers [95] and sifting by them [96]."""

import random
import unittest
from itertools import product
from math import factorial

from tests import plain
from tests.helper import ANY_VALUES, changed_once, same_kinds, some_numbering, some_webs
from tests.test_levels import plain_tree
from webnames.numberings import is_pairing, renumbered
from webnames.pairings import all_numberings
from webnames.symmetric import symmetry_count
from webnames.sympapers import from_choices, is_symmetry_paper, paper_count, sifted, symmetry_paper


def small(seed, most=6, many=30):
    return [web for web in plain.SHAPES + some_webs(seed, many, most) if len(web[0]) <= most]


def plain_is_paper(web, value):
    """Whether any value is a symmetry paper, by the words of [95]."""
    if type(value) is not list:
        return False
    path = []
    for entry in value:
        cell = plain.target(plain.colouring_of(web, path))
        if cell is None or type(entry) is not tuple or len(entry) != 2 or not same_kinds(entry[0], cell[0]):
            return False
        if type(entry[1]) is not list or len(entry[1]) != len(cell):
            return False
        for part, row in zip(cell, entry[1]):
            if type(row) is not tuple or len(row) != 3 or not same_kinds(row[1], part) or type(row[0]) is not str:
                return False
            if row[0] == "to":
                if not is_pairing(web, web, row[2]) or [row[2][x] for x in path + cell[:1]] != path + [part]:
                    return False
            elif row[0] == "apart":
                tree = plain_tree(web, path + cell[:1], web, path + [part])
                if tree is None or not same_kinds(row[2], tree):
                    return False
            else:
                return False
        path = path + cell[:1]
    return plain.target(plain.colouring_of(web, path)) is None


class Papers(unittest.TestCase):
    def test_papers(self):
        words = set()
        for web in small(300) + [plain.FRUCHT, plain.beside(plain.ring(3), plain.ring(4))]:
            paper = symmetry_paper(web)
            self.assertTrue(plain_is_paper(web, paper))
            self.assertIs(is_symmetry_paper(web, paper), True)
            self.assertEqual(paper_count(paper), symmetry_count(web))
            words |= {row[0] for entry in paper for row in entry[1]}
            for entry in paper:
                self.assertEqual(entry[1][0][:2], ("to", entry[0]))
        self.assertEqual(words, {"to", "apart"})
        self.assertEqual((symmetry_paper(plain.alone(0)), paper_count([])), ([], 1))
        self.assertIs(is_symmetry_paper(plain.alone(0), []), True)
        self.assertIs(is_symmetry_paper(plain.row(2), []), False)
        self.assertEqual(symmetry_paper(plain.row(3, orders=(1, 2))), [])

    def test_changed_in_one_thing(self):
        for number, web in enumerate(small(301)):
            paper = symmetry_paper(web)
            changed = changed_once(paper)
            for value in random.Random(number).sample(changed, min(120, len(changed))):
                self.assertIs(is_symmetry_paper(web, value), plain_is_paper(web, value))
        web = plain.ring(4)
        paper = symmetry_paper(web)
        for value in ANY_VALUES + [tuple(paper), [list(entry) for entry in paper], paper[:1], paper + paper[-1:], [paper]]:
            self.assertIs(is_symmetry_paper(web, value), False)
            self.assertIs(is_symmetry_paper(web, [value]), False)
            self.assertIs(is_symmetry_paper(web, [(0, value)] + paper[1:]), False)
            self.assertIs(is_symmetry_paper(web, [(0, [value] + paper[0][1][1:])] + paper[1:]), False)
            for word in ("to", "apart"):
                rows = [(word, 0, value)] + paper[0][1][1:]
                self.assertIs(is_symmetry_paper(web, [(0, rows)] + paper[1:]), False)

    def test_other_rows(self):
        # Each numbering of a "to" row replaced by each other one that is a symmetry, and by some that are none.
        rng = random.Random(302)
        seen = set()
        for web in (plain.ring(4), plain.star(3, 1), plain.alone(4), plain.beside(plain.ring(3), plain.alone(1))):
            paper = symmetry_paper(web)
            known = plain.pairings(web, web)
            for k, (base, rows) in enumerate(paper):
                for j, row in enumerate(rows):
                    for numbering in known + [some_numbering(rng, len(web[0])) for _ in range(3)]:
                        told = rows[:j] + [("to", row[1], numbering)] + rows[j + 1:]
                        value = paper[:k] + [(base, told)] + paper[k + 1:]
                        right = plain_is_paper(web, value)
                        self.assertIs(is_symmetry_paper(web, value), right)
                        seen.add((right, row[2] == numbering))
                    told = rows[:j] + [("apart", row[1], ("view",))] + rows[j + 1:]
                    self.assertIs(is_symmetry_paper(web, paper[:k] + [(base, told)] + paper[k + 1:]), row[0] == "apart")
                self.assertIs(is_symmetry_paper(web, paper[:k] + [(base, rows[1:] + rows[:1])] + paper[k + 1:]), len(rows) < 2)
        self.assertEqual(len(seen), 3)

    def test_renumbered(self):
        rng = random.Random(303)
        for web in small(304):
            far = renumbered(web, some_numbering(rng, len(web[0])))
            self.assertIs(is_symmetry_paper(far, symmetry_paper(far)), True)
            self.assertEqual(paper_count(symmetry_paper(far)), paper_count(symmetry_paper(web)))

    def test_24_parts(self):
        for web, number in ((plain.alone(24), factorial(24)), (plain.ring(24), 48), (plain.ladder(12), 4),
                            (plain.beside(*[plain.ring(3)] * 8), 6 ** 8 * factorial(8)),
                            (plain.beside(*[plain.cube()] * 3), 48 ** 3 * 6)):
            paper = symmetry_paper(web)
            self.assertEqual(paper_count(paper), number)
            self.assertIs(is_symmetry_paper(web, paper), True)
            self.assertIs(is_symmetry_paper(web, paper[:-1]), False)
            rng = random.Random(305)
            for _ in range(5):
                choices = [rng.choice([row[1] for row in rows if row[0] == "to"]) for _, rows in paper]
                symmetry = from_choices(web, paper, choices)
                self.assertTrue(is_pairing(web, web, symmetry))
                self.assertEqual(sifted(web, paper, symmetry), choices)
            if web[1]:
                self.assertIsNone(sifted(web, paper, some_numbering(rng, 24)))


class Sifting(unittest.TestCase):
    def test_sifting(self):
        for web in small(306, 5):
            paper = symmetry_paper(web)
            known = plain.pairings(web, web)
            noted = {}
            for numbering in all_numberings(len(web[0])):
                found = sifted(web, paper, numbering)
                if numbering in known:
                    noted[tuple(found)] = numbering
                    # By the words of [96].
                    left = list(numbering)
                    for (base, rows), x in zip(paper, found):
                        self.assertEqual(left[base], x)
                        to = [row[2] for row in rows if row[:2] == ("to", x)][0]
                        left = [to.index(y) for y in left]
                    self.assertEqual(left, list(range(len(left))))
                else:
                    self.assertIsNone(found)
            self.assertEqual(len(noted), len(known))
            for choices in product(*[[row[1] for row in rows if row[0] == "to"] for _, rows in paper]):
                self.assertEqual(from_choices(web, paper, list(choices)), noted[choices])

    def test_falling_through(self):
        # At a row "apart", and at the end, where each level has a row for what is left.
        web = plain.beside(plain.ring(3), plain.ring(4))
        paper = symmetry_paper(web)
        base = paper[0][0]
        apart = [row[1] for row in paper[0][1] if row[0] == "apart"][0]
        numbering = list(range(7))
        numbering[base], numbering[apart] = apart, base
        self.assertIsNone(sifted(web, paper, numbering))
        row = plain.beside(plain.row(2), plain.row(3, ("a", 0), (1, 2)))
        self.assertIsNone(sifted(row, symmetry_paper(row), [0, 1, 2, 4, 3]))
        self.assertIsNone(sifted(row, symmetry_paper(row), [1, 0, 2, 4, 3]))
        self.assertEqual(sifted(row, symmetry_paper(row), [1, 0, 2, 3, 4]), [1])
        self.assertEqual(sifted(plain.alone(0), [], []), [])
        self.assertEqual(from_choices(plain.alone(0), [], []), [])

    def test_other_papers(self):
        # Another right paper, with other symmetries in its rows.
        web = plain.alone(3)
        paper = [(0, [("to", 0, [0, 2, 1]), ("to", 1, [1, 2, 0]), ("to", 2, [2, 1, 0])]),
                 (1, [("to", 1, [0, 1, 2]), ("to", 2, [0, 2, 1])])]
        self.assertIs(is_symmetry_paper(web, paper), True)
        told = set()
        for numbering in all_numberings(3):
            noted = sifted(web, paper, numbering)
            self.assertEqual(from_choices(web, paper, noted), numbering)
            told.add(tuple(noted))
        self.assertEqual(told, set(product((0, 1, 2), (1, 2))))


if __name__ == "__main__":
    unittest.main()
