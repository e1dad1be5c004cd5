"""webnames.chains: group papers and their judge [26], [27], and what a chain tells of a group."""

import random
import unittest

from tests.helper import ANY_VALUES, NOT_COUNTS, all_of, changed_once, group_of, some_groups, some_numbering
from webnames.chains import group_order, group_paper, is_group_paper, is_in, is_steps, paper_has, steps_to
from webnames.closing import plain_group, word
from webnames.errors import InvalidMany
from webnames.numberings import back, then

ALL_24 = [list(range(1, 24)) + [0], [1, 0] + list(range(2, 24))]
FACTORIAL_24 = 620448401733239439360000


def plain_meanings(many, numberings, steps):
    """The numberings for which the steps stand, None if something is wrong, as [26] tells it."""
    def below(x, bound):
        return type(x) is int and 0 <= x < bound

    if type(steps) is not list:
        return None
    meant = []
    for step in steps:
        if type(step) is not tuple or not step or type(step[0]) is not str:
            return None
        word_, rest = step[0], step[1:]
        if word_ == "stay" and len(rest) == 0:
            meant.append(list(range(many)))
        elif word_ == "given" and len(rest) == 1 and below(rest[0], len(numberings)):
            meant.append(numberings[rest[0]])
        elif word_ == "then" and len(rest) == 2 and below(rest[0], len(meant)) and below(rest[1], len(meant)):
            meant.append([meant[rest[1]][x] for x in meant[rest[0]]])
        elif word_ == "back" and len(rest) == 1 and below(rest[0], len(meant)):
            meant.append([meant[rest[0]].index(x) for x in range(many)])
        else:
            return None
    return meant


def plain_sifts(levels, meant, p):
    for k, level in enumerate(levels):
        steps = [step for part, step in level if part == p[k]]
        if not steps:
            return False
        p = [meant[steps[0]].index(x) for x in p]
    return True


def plain_is_paper(many, numberings, value):
    """Whether any value is a right group paper, told once more, with all products."""
    if type(value) is not tuple or len(value) != 2 or type(value[1]) is not list or len(value[1]) != many:
        return False
    meant = plain_meanings(many, numberings, value[0])
    if meant is None:
        return False
    for k, level in enumerate(value[1]):
        if type(level) is not list or any(type(entry) is not tuple or len(entry) != 2 for entry in level):
            return False
        if any(type(x) is not int for entry in level for x in entry) or not level:
            return False
        if any(step not in range(len(meant)) for part, step in level):
            return False
        if any(meant[step][k] != part or meant[step][:k] != list(range(k)) for part, step in level):
            return False
        parts = [part for part, step in level]
        if parts != sorted(set(parts)) or parts[0] != k or meant[level[0][1]] != list(range(many)):
            return False
    products = list(numberings)
    for k, level in enumerate(value[1]):
        for later in value[1][k:]:
            products += [[meant[j][x] for x in meant[i]] for _, i in level for _, j in later]
    return all(plain_sifts(value[1], meant, p) for p in products)


class Papers(unittest.TestCase):
    def check_bounds(self, many, numberings, paper):
        steps, levels = paper
        entries = sum(len(level) for level in levels)
        self.assertLessEqual(entries, many * (many + 1) // 2)
        self.assertLessEqual(len(steps), (many + 3) * entries + len(numberings) + 1)

    def test_right_papers(self):
        for many, numberings in some_groups(60):
            paper = group_paper(many, numberings)
            self.assertIs(is_group_paper(many, numberings, paper), True)
            self.assertTrue(plain_is_paper(many, numberings, paper))
            self.check_bounds(many, numberings, paper)
            members = group_of(many, numberings)
            order = 1
            for k, level in enumerate(paper[1]):
                order *= len(level)
                orbit = sorted({m[k] for m in members if m[:k] == tuple(range(k))})
                self.assertEqual([part for part, step in level], orbit)
            self.assertEqual(order, len(members))

    def test_great_groups(self):
        rng = random.Random(61)
        for numberings in (ALL_24, [some_numbering(rng, 24) for _ in range(300)]):
            paper = group_paper(24, numberings)
            self.check_bounds(24, numberings, paper)
            self.assertIs(is_group_paper(24, numberings, paper), True)
            other = [[1, 2, 0] + list(range(3, 24))] + [list(range(24))] * (len(numberings) - 1)
            self.assertIs(is_group_paper(24, other, paper), False)

    def test_papers_changed_once(self):
        right = 0
        for many, numberings in [(0, []), (1, [[0]]), (3, [[1, 2, 0]]), (4, [[1, 0, 3, 2], [0, 1, 3, 2]]),
                                 (4, [[1, 2, 3, 0], [1, 0, 2, 3]]), (5, [[1, 2, 0, 4, 3], [0, 1, 2, 4, 3]])]:
            paper = group_paper(many, numberings)
            for value in changed_once(paper):
                expected = plain_is_paper(many, numberings, value)
                self.assertIs(is_group_paper(many, numberings, value), expected, value)
                right += expected
        # Some changes do no harm, such as a step that is not needed.
        self.assertGreater(right, 0)

    def test_single_faults(self):
        turn = [[1, 2, 0]]
        steps = [("stay",), ("given", 0), ("then", 1, 1), ("back", 0)]
        levels = [[(0, 0), (1, 1), (2, 2)], [(1, 0)], [(2, 0)]]
        self.assertIs(is_group_paper(3, turn, (steps, levels)), True)
        self.assertIs(is_group_paper(3, turn, (steps, [[(0, 3), (1, 1), (2, 2)], [(1, 0)], [(2, 3)]])), True)
        for other in (
            (steps, levels[:2]), (steps, levels + [[(2, 0)]]), (steps, [levels[0][:1]] + levels[1:]),
            (steps, [levels[0][:2]] + levels[1:]), (steps, [[(0, 0), (2, 2), (1, 1)]] + levels[1:]),
            (steps, [[(1, 1), (2, 2)]] + levels[1:]), (steps, [levels[0], [], levels[2]]),
            (steps, [[(0, 0), (1, 2), (2, 1)]] + levels[1:]), (steps, [[(0, 0), (1, 1), (2, 4)]] + levels[1:]),
            (steps, [[(0, 0), (1, True), (2, 2)]] + levels[1:]), (steps, [[(False, 0), (1, 1), (2, 2)]] + levels[1:]),
            (steps, [[(0, 0), (1, 1), (1, 1), (2, 2)]] + levels[1:]), (steps, [[(0, 0), (1, 1), (2, -2)]] + levels[1:]),
            ([("stay",), ("given", 1), ("then", 1, 1)], levels), ([("stay",), ("given", 0), ("then", 2, 1)], levels),
            ([("stay",), ("given", 0), ("then", 1, True)], levels), ([["stay"], ("given", 0), ("then", 1, 1)], levels),
            ([("stay", 0), ("given", 0), ("then", 1, 1)], levels), ([("stay",), ("given", 0, 0), ("then", 1, 1)], levels),
            ([("stay",), ("given", False), ("then", 1, 1)], levels), (steps + [("turn", 0)], levels),
            (steps + [("back", 4)], levels), (steps + [()], levels), (tuple(steps), levels), (steps, tuple(levels)),
            [steps, levels], (steps, levels, []), (steps,),
        ):
            self.assertIs(is_group_paper(3, turn, other), False, other)
        self.assertIs(is_group_paper(3, [[1, 2, 0], [1, 0, 2]], (steps, levels)), False)
        self.assertIs(is_group_paper(3, [[1, 2, 0], [2, 0, 1]], (steps, levels)), True)

    def test_closed_only_by_products(self):
        # The numbering sifts, and names all of its orbit; but its doings twice do not sift.
        numberings = [[1, 0, 3, 4, 2]]
        steps = [("stay",), ("given", 0)]
        levels = [[(0, 0), (1, 1)], [(1, 0)], [(2, 0)], [(3, 0)], [(4, 0)]]
        self.assertIs(is_group_paper(5, numberings, (steps, levels)), False)

    def test_any_value(self):
        for value in ANY_VALUES:
            self.assertIs(is_group_paper(3, [[1, 2, 0]], value), False)
            self.assertIs(is_group_paper(3, [[1, 2, 0]], ([value], [[(0, 0)], [(1, 0)], [(2, 0)]])), False)
            self.assertIs(is_group_paper(0, [], (value, [])), isinstance(value, list) and value == [])
            self.assertIs(is_group_paper(1, [], ([("stay",)], [value])), False)
            self.assertIs(is_group_paper(1, [], ([("stay",)], [[value]])), False)
            self.assertIs(is_group_paper(1, [], ([("stay",)], [[(0, value)]])), False)
            self.assertIs(is_group_paper(1, [[0]], ([("stay",), ("given", value)], [[(0, 0)]])), False)

    def test_paper_has(self):
        for many, numberings in some_groups(62):
            paper = group_paper(many, numberings)
            members = group_of(many, numberings)
            rng = random.Random(63)
            tried = [list(m) for m in sorted(members)[::53]] + [some_numbering(rng, many) for _ in range(20)]
            for p in tried:
                self.assertIs(paper_has(many, numberings, paper, p), tuple(p) in members)


class Chains(unittest.TestCase):
    def test_orders(self):
        for many, numberings in some_groups(64):
            self.assertEqual(group_order(many, numberings), len(plain_group(many, numberings)))
        self.assertEqual(group_order(24, ALL_24), FACTORIAL_24)
        self.assertEqual(group_order(24, ALL_24[:1]), 24)
        even = [[1, 2, 0] + list(range(3, 24)), [0] + list(range(2, 24)) + [1]]
        self.assertEqual(group_order(24, even), FACTORIAL_24 // 2)
        self.assertEqual(group_order(8, [[1, 2, 3, 4, 5, 6, 7, 0], [1, 0, 2, 3, 4, 5, 6, 7]]), 40320)
        # The group of Mathieu on 24 points.
        squares = {x * x % 23 for x in range(23)}
        cubes = [x ** 3 * (pow(9, -1, 23) if x in squares else 9) % 23 for x in range(23)] + [23]
        inverses = [23] + [-pow(x, -1, 23) % 23 for x in range(1, 23)] + [0]
        mathieu = [[(x + 1) % 23 for x in range(23)] + [23], inverses, cubes]
        self.assertEqual(group_order(24, mathieu), 244823040)

    def test_is_in(self):
        rng = random.Random(65)
        for many, numberings in some_groups(66):
            members = group_of(many, numberings)
            for p in [list(m) for m in sorted(members)[::61]] + [some_numbering(rng, many) for _ in range(20)]:
                self.assertIs(is_in(many, numberings, p), tuple(p) in members)
                self.assertEqual(word(many, numberings, p) is not None, tuple(p) in members)
        self.assertIs(is_in(24, ALL_24, some_numbering(rng, 24)), True)

    def test_steps_to(self):
        rng = random.Random(67)
        for many, numberings in some_groups(68) + [(24, ALL_24)]:
            tried = [some_numbering(rng, many) for _ in range(3)] + [list(range(many))] + numberings
            tried += [then(p, back(q)) for p in numberings for q in numberings]
            for p in tried:
                steps = steps_to(many, numberings, p)
                self.assertEqual(steps is not None, is_in(many, numberings, p))
                if steps is not None:
                    self.assertEqual(plain_meanings(many, numberings, steps)[-1], p)
                    self.assertIs(is_steps(many, numberings, p, steps), True)
                    self.assertIs(is_steps(many, numberings, p[::-1], steps), p[::-1] == p)

    def test_is_steps(self):
        turn = [[1, 2, 0]]
        steps = [("given", 0), ("stay",), ("then", 0, 0), ("back", 2), ("then", 3, 2)]
        for value in changed_once(steps) + [steps, []]:
            meant = plain_meanings(3, turn, value)
            for p in all_of(3):
                expected = bool(meant) and meant[-1] == p
                self.assertIs(is_steps(3, turn, p, value), expected, value)
        for value in ANY_VALUES:
            self.assertIs(is_steps(3, turn, [0, 1, 2], value), False)
            self.assertIs(is_steps(3, turn, [0, 1, 2], [value]), False)
            self.assertIs(is_steps(3, turn, [0, 1, 2], [("given", value)]), False)
        self.assertIs(is_steps(0, [], [], [("stay",)]), True)
        self.assertIs(is_steps(0, [], [], []), False)

    def test_many(self):
        for many in NOT_COUNTS + [25]:
            for asked in (lambda: group_paper(many, []), lambda: is_group_paper(many, [], ([], [])),
                          lambda: paper_has(many, [], ([], []), []), lambda: group_order(many, []),
                          lambda: is_in(many, [], []), lambda: steps_to(many, [], []),
                          lambda: is_steps(many, [], [], [("stay",)])):
                with self.assertRaises(InvalidMany):
                    asked()


if __name__ == "__main__":
    unittest.main()
