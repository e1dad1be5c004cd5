"""webnames.nomatch: papers of no match [125], and their judge."""

import random
import unittest

from tests import plain
from tests.helper import ANY_VALUES, changed_once, some_numbering
from tests.test_patterns import pattern_pairs, plain_candidates, plain_fit, plain_is_match, plain_matches, some_pattern
from webnames.errors import TooMany
from webnames.nomatch import is_no_match, no_match
from webnames.numberings import renumbered
from webnames.patterns import pattern_of

ANY = ((), None)


def is_place(value, many):
    return type(value) is int and 0 <= value < many


def plain_judge(pattern, web, table, value):
    """Whether any value is a paper of no match that is read with this table, by the words of [125]."""
    if type(value) is not tuple or len(value) != 2 or type(value[0]) is not list or type(value[1]) is not tuple:
        return False
    table = [list(row) for row in table]
    many = len(table)
    for step in value[0]:
        if type(step) is not tuple or len(step) != 3 or not is_place(step[0], many) or not is_place(step[2], many):
            return False
        a, x, b = step
        if a == b or type(x) is not int or x not in table[a] or any(plain_fit(pattern, web, a, x, b, y) for y in table[b]):
            return False
        table[a].remove(x)
    end = value[1]
    if len(end) == 1:
        single = all(len(row) == 1 for row in table)
        return end[0] == "fails" and single and not plain_is_match(pattern, web, [row[0] for row in table])
    if len(end) == 2:
        return end[0] == "gone" and is_place(end[1], many) and table[end[1]] == []
    if len(end) != 3 or end[0] != "split" or not is_place(end[1], many) or type(end[2]) is not list:
        return False
    row = table[end[1]]
    if len(row) < 2 or len(end[2]) != len(row):
        return False
    held = [[[x] if a == end[1] else other for a, other in enumerate(table)] for x in row]
    return all(plain_judge(pattern, web, one, paper) for one, paper in zip(held, end[2]))


def some_paper(rng, pattern, web, table, deep=0):
    """A right paper, its steps and splits chosen anyhow."""
    table = [list(row) for row in table]
    many = len(table)
    steps = []
    while rng.random() < 0.9:
        going = [(a, x, b) for a in range(many) for b in range(many) if a != b for x in table[a]
                 if not any(plain_fit(pattern, web, a, x, b, y) for y in table[b])]
        if not going or (rng.random() < 0.2 and [] in table):
            break
        step = rng.choice(going)
        steps.append(step)
        table[step[0]].remove(step[1])
    if [] in table:
        return (steps, ("gone", rng.choice([a for a in range(many) if not table[a]])))
    wide = [a for a in range(many) if len(table[a]) > 1]
    if not wide:
        return (steps, ("fails",))
    place = rng.choice(wide)
    held = [[[x] if a == place else row for a, row in enumerate(table)] for x in table[place]]
    return (steps, ("split", place, [some_paper(rng, pattern, web, one, deep + 1) for one in held]))


def small_pairs(seed, many=60):
    """Pairs of a pattern of at most 4 places and a web of at most 6 parts."""
    rng = random.Random(seed)
    found = [(pattern, web) for pattern, web in pattern_pairs(seed, many, 6, 4) if len(web[0]) <= 6]
    for sign in (1, -1):
        found.append((pattern_of(plain.star(3, 1)), plain.star(3, sign)))
        found.append((pattern_of(plain.star(3, 1, ("a", 0))), plain.star(3, sign)))
        unlike = ([("c", 0), ("x", 0), ("y", 0), ("z", 0)], plain.star(3)[1], [(0, sign)], [])
        found.append((pattern_of(unlike), (unlike[0], unlike[1], [(0, 1)], [])))
        short = ([ANY] * 4, [(0, 1, (1,)), (1, 2, (2,)), (2, 3, (1,))], [], [(1, 2, sign)])
        found.append((short, plain.double(1, (("a", 0), ("b", 0), ("c", 0), ("d", 0)))))
        found.append((short, ([plain.K] * 4, [(0, 1, 1), (1, 2, 2), (2, 3, 1)], [], [(1, 2, 1)])))
    return found + [(some_pattern(rng, 3, 3, ("k",)), plain.ring(5)) for _ in range(10)]


class Papers(unittest.TestCase):
    def test_there_is_one_exactly_if_there_is_no_match(self):
        ends = set()
        for pattern, web in small_pairs(470):
            paper = no_match(pattern, web)
            expected = not plain_matches(pattern, web)
            self.assertIs(paper is not None, expected)
            if expected:
                self.assertIs(is_no_match(pattern, web, paper), True)
                self.assertIs(plain_judge(pattern, web, plain_candidates(pattern, web), paper), True)
                ends.add(paper[1][0])
            else:
                # Each way of reading comes to a match, so none is right.
                for number in range(3):
                    paper = some_paper(random.Random(number), pattern, web, plain_candidates(pattern, web))
                    self.assertIs(is_no_match(pattern, web, paper), False)
        self.assertEqual(ends, {"gone", "fails", "split"})

    def test_made_anyhow(self):
        rng = random.Random(471)
        ends = set()
        for pattern, web in small_pairs(472):
            if not plain_matches(pattern, web):
                for _ in range(4):
                    paper = some_paper(rng, pattern, web, plain_candidates(pattern, web))
                    self.assertIs(is_no_match(pattern, web, paper), True)
                    ends.add(paper[1][0])
        self.assertEqual(ends, {"gone", "fails", "split"})

    def test_greater_ones(self):
        for pattern, web in (
            (pattern_of(plain.ring(5)), plain.cube()), (pattern_of(plain.ring(7)), plain.ladder(12)),
            (pattern_of(plain.all_tied(4)), plain.PETERSEN), (pattern_of(plain.ring(3)), plain.PETERSEN),
            (pattern_of(plain.row(8)), plain.beside(*[plain.row(7)] * 3)), (pattern_of(plain.star(4)), plain.cube()),
        ):
            paper = no_match(pattern, web)
            self.assertIs(is_no_match(pattern, web, paper), True)
            for value in ((paper[0], ("gone", 0)), (paper[0][1:], paper[1]), (paper[0], ("fails",)), ([], paper[1])):
                expected = plain_judge(pattern, web, plain_candidates(pattern, web), value)
                self.assertIs(is_no_match(pattern, web, value), expected)
            p = some_numbering(random.Random(1), len(web[0]))
            self.assertIs(is_no_match(pattern, renumbered(web, p), no_match(pattern, renumbered(web, p))), True)
        self.assertIsNone(no_match(pattern_of(plain.ring(4)), plain.cube()))

    def test_too_many(self):
        free = ([ANY] * 3, [], [], [])
        with self.assertRaises(TooMany) as caught:
            no_match(free, plain.alone(16))
        self.assertEqual((caught.exception.what, caught.exception.limit), ("tables", 3000))
        self.assertIsNone(no_match(free, plain.alone(15)))


class Judged(unittest.TestCase):
    def test_changed_in_one_thing(self):
        rng = random.Random(473)
        answers = []
        for pattern, web in small_pairs(474, 40):
            if plain_matches(pattern, web):
                continue
            table = plain_candidates(pattern, web)
            for paper in (no_match(pattern, web), some_paper(rng, pattern, web, table)):
                changed = changed_once(paper)
                for value in rng.sample(changed, min(40, len(changed))):
                    expected = plain_judge(pattern, web, table, value)
                    self.assertIs(is_no_match(pattern, web, value), expected)
                    answers.append(expected)
        self.assertGreater(answers.count(True), 10)
        self.assertGreater(answers.count(False), 1000)

    def test_for_other_webs_and_patterns(self):
        pairs = small_pairs(475, 30)
        papers = [no_match(pattern, web) for pattern, web in pairs]
        answers = set()
        for pattern, web in pairs[:20]:
            for paper in papers:
                expected = plain_judge(pattern, web, plain_candidates(pattern, web), paper)
                self.assertIs(is_no_match(pattern, web, paper), expected)
                answers.add(expected)
        self.assertEqual(answers, {True, False})

    def test_told_ones(self):
        pair, web = ([ANY] * 2, [(0, 1, (2,))], [], []), plain.row(3)
        gone = ([(0, 0, 1), (0, 1, 1), (0, 2, 1)], ("gone", 0))
        self.assertIs(is_no_match(pair, web, gone), True)
        whole = [([], ("split", 1, [([(0, 0, 1), (0, 1, 1), (0, 2, 1)], ("gone", 0))] * 3)),
                 ([(0, 0, 1)], ("split", 0, [([(1, x, 0) for x in (2, 1, 0)], ("gone", 1))] * 2))]
        for value in whole:
            self.assertIs(is_no_match(pair, web, value), True)
        wrong = [
            ([], ("gone", 0)), (gone[0][:2], ("gone", 0)), (gone[0], ("gone", 1)), (gone[0], ("gone", 2)), (gone[0], ("gone",)),
            (gone[0], ("gone", False)), (gone[0], ("fails",)), (gone[0], ["gone", 0]), (tuple(gone[0]), ("gone", 0)),
            list(gone), (gone[0], ("gone", 0), None), (gone[0] + [(0, 0, 1)], ("gone", 0)), (gone[0][:1] * 3, ("gone", 0)),
            ([(0, 0, 0)] + gone[0][1:], ("gone", 0)), ([(0, 0, 2)] + gone[0][1:], ("gone", 0)),
            ([(0, 0, True)] + gone[0][1:], ("gone", 0)), ([(False, 0, 1)] + gone[0][1:], ("gone", 0)),
            ([[0, 0, 1]] + gone[0][1:], ("gone", 0)), ([(0, 0)] + gone[0][1:], ("gone", 0)),
            ([(0, False, 1)] + gone[0][1:], ("gone", 0)), ([(0, None, 1)] + gone[0][1:], ("gone", 0)),
            ([], ("split", 1, whole[0][1][2][:2])), ([], ("split", 1, tuple(whole[0][1][2]))), ([], ("split", 2, whole[0][1][2])),
            ([], ("split", 1)), ([], ("split", True, whole[0][1][2])), (gone[0][:2], ("split", 0, [([(0, 2, 1)], ("gone", 0))])),
        ]
        for value in wrong + ANY_VALUES:
            self.assertIs(is_no_match(pair, web, value), False, value)
        # Where each row has one part, this may be no match, or one.
        star = ([("c", 0), ("x", 0), ("y", 0), ("z", 0)], plain.star(3)[1], [(0, 1)], [])
        self.assertIs(is_no_match(pattern_of((*star[:2], [(0, -1)], [])), star, ([], ("fails",))), True)
        self.assertIs(is_no_match(pattern_of(star), star, ([], ("fails",))), False)
        for value in ANY_VALUES + [([], ("fails",)), ([], ("gone", 0))]:
            self.assertIs(is_no_match(([], [], [], []), star, value), False)
        self.assertIs(is_no_match(([ANY], [], [], []), plain.alone(0), ([], ("gone", 0))), True)


if __name__ == "__main__":
    unittest.main()
