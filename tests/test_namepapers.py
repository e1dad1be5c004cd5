"""webnames.namepapers: name papers [85], plain ones [86], and each fault [87]."""

import random
import unittest

from tests import plain
from tests.helper import ANY_VALUES, changed_once, lists_in, same_kinds, some_numbering
from tests.test_fulltree import few_leaves
from webnames.errors import TooMany
from webnames.fulltree import best_leaves
from webnames.namepapers import (
    is_name_paper, is_pointed_paper, name_paper, paper_fault, plain_paper, pointed_paper,
)
from webnames.names import form, pointed_form
from webnames.numberings import is_pairing, renumbered
from webnames.search import quick_form, quick_pointed
from webnames.webs import is_web


def plain_fault(web, path, told, value):
    """The fault, by the words of [85] and [87]."""
    if type(value) is not tuple or len(value) != 2 or type(value[0]) is not list or type(value[1]) is not list:
        return "shape"
    best, rows = value
    known = [colouring for leaf, colouring in plain.leaves(web, path) if same_kinds(leaf, best)]
    if not known:
        return "best"
    leaf_web = renumbered(web, known[0])
    if not is_web(told) or told != leaf_web:
        return "form"
    best_traces = plain.traces(web, best)
    waits = [list(path)]
    for place, row in enumerate(rows):
        if not waits:
            return place
        here = waits.pop(0)
        seen = plain.traces(web, here)
        colouring = plain.colouring_of(web, here)
        cell = plain.target(colouring)
        if same_kinds(row, ("leaf",)):
            right = cell is None and seen == best_traces and renumbered(web, colouring) >= leaf_web
        elif same_kinds(row, ("split",)):
            right = cell is not None and seen == best_traces[:len(seen)]
            waits = [here + [part] for part in cell or []] + waits
        elif same_kinds(row, ("later",)):
            right = seen > best_traces[:len(seen)]
        elif type(row) is tuple and len(row) == 3 and row[0] == "like" and type(row[0]) is str:
            part, numbering = row[1:]
            right = len(here) > len(path) and type(part) is int and 0 <= part < here[-1]
            right = right and is_pairing(web, web, numbering) and all(numbering[x] == x for x in here[:-1])
            right = right and numbering[part] == here[-1]
        else:
            right = False
        if not right:
            return place
    return len(rows) if waits else None


def with_likes(rng, web, path):
    """A right paper with rows "like" where there can be some, each put in or not."""
    best = rng.choice(best_leaves(web, path))
    symmetries = plain.pairings(web, web)
    best_traces = plain.traces(web, best)
    waits, rows = [list(path)], []
    while waits:
        here = waits.pop(0)
        likes = []
        if len(here) > len(path):
            for p in symmetries:
                part = p.index(here[-1])
                if part < here[-1] and all(p[x] == x for x in here[:-1]):
                    likes.append(("like", part, p))
        seen = plain.traces(web, here)
        cell = plain.target(plain.colouring_of(web, here))
        if likes and rng.random() < 0.8:
            rows.append(rng.choice(likes))
        elif seen > best_traces[:len(seen)]:
            rows.append(("later",))
        elif cell is None:
            rows.append(("leaf",))
        else:
            rows.append(("split",))
            waits = [here + [part] for part in cell] + waits
    return (best, rows)


def some_papers(seed):
    """`(web, path, form, paper)` with right papers of each way."""
    rng = random.Random(seed)
    for web in few_leaves(seed, 60, 20, 7):
        if len(web[0]) > 7:
            continue
        web = renumbered(web, some_numbering(rng, len(web[0])))
        for path in [[]] + plain.paths_of(rng, len(web[0]), (1, 2)):
            told = pointed_form(web, path)
            yield web, path, told, plain_paper(web, path)
            yield web, path, told, pointed_paper(web, path)
            yield web, path, told, with_likes(rng, web, path)
    for _ in range(4):
        web = renumbered(plain.beside(plain.ring(3), plain.ring(4)), some_numbering(rng, 7))
        yield web, [], form(web), pointed_paper(web, [])
        yield web, [], form(web), with_likes(rng, web, [])


class Right(unittest.TestCase):
    def test_right_papers(self):
        words = set()
        for web, path, told, paper in some_papers(270):
            self.assertIsNone(plain_fault(web, path, told, paper))
            self.assertIsNone(paper_fault(web, path, told, paper))
            self.assertIs(is_pointed_paper(web, path, told, paper), True)
            self.assertIs(is_name_paper(web, told, paper), plain_fault(web, [], told, paper) is None)
            words |= {row[0] for row in paper[1]}
        self.assertEqual(words, {"leaf", "split", "later", "like"})

    def test_plain_papers(self):
        for web in few_leaves(271, 100, 40):
            for path in [[]] + plain.paths_of(random.Random(len(web[0])), len(web[0]), (1,)):
                best = best_leaves(web, path)[0]
                best_traces = plain.traces(web, best)
                waits, rows = [list(path)], []
                while waits:
                    here = waits.pop(0)
                    seen = plain.traces(web, here)
                    if seen > best_traces[:len(seen)]:
                        rows.append(("later",))
                    elif seen == best_traces:
                        rows.append(("leaf",))
                    else:
                        rows.append(("split",))
                        waits = [here + [part] for part in plain.target(plain.colouring_of(web, here))] + waits
                self.assertTrue(same_kinds(plain_paper(web, path), (best, rows)))
            self.assertEqual(len(lists_in(plain_paper(web, []))), 2)

    def test_name_papers(self):
        for web in few_leaves(272, 5040, 30):
            paper = name_paper(web)
            self.assertIs(is_name_paper(web, form(web), paper), True)
            self.assertEqual(paper[0], best_leaves(web, [])[0])
            self.assertTrue(same_kinds(paper, pointed_paper(web, [])))
        empty = plain.alone(0)
        self.assertEqual(name_paper(empty), ([], [("leaf",)]))
        self.assertEqual(plain_paper(empty, []), ([], [("leaf",)]))
        self.assertIs(is_name_paper(empty, empty, ([], [("leaf",)])), True)

    def test_likes_by_several_steps(self):
        # Symmetries that keep a part turn three others here, so some rows are like by two found ones.
        rng = random.Random(277)
        four = (plain.all_tied(4)[0], plain.all_tied(4)[1], [(0, 1), (1, -1), (2, 1), (3, -1)], [])
        for web in (plain.star(4, 1), plain.beside(plain.star(4, 1), plain.star(4, -1)), four, plain.cube(),
                    plain.beside(plain.star(3, 1), plain.star(3, 1)), plain.beside(four, four), plain.PETERSEN):
            for _ in range(40):
                far = renumbered(web, some_numbering(rng, len(web[0])))
                paper = name_paper(far)
                self.assertIs(is_name_paper(far, quick_form(far), paper), True)
                for row in paper[1]:
                    self.assertTrue(row[0] != "like" or is_pairing(far, far, row[2]))

    def test_24_parts(self):
        for web in (plain.alone(24), plain.ring(24), plain.beside(*[plain.ring(3)] * 8), plain.ladder(12),
                    plain.beside(*[plain.star(3, sign) for sign in (1, -1, 1, 1, -1, 1)]), plain.twins((1, -1, 1, 1, -1, 1))):
            paper = name_paper(web)
            told = quick_form(web)
            self.assertIs(is_name_paper(web, told, paper), True)
            self.assertLess(len(paper[1]), 1000)
            self.assertEqual(paper_fault(web, [], told, (paper[0], paper[1][:-1])), len(paper[1]) - 1)
            self.assertEqual(paper_fault(web, [], told, (paper[0], paper[1] + [("later",)])), len(paper[1]))
            self.assertIs(is_pointed_paper(web, [5], quick_pointed(web, [5]), pointed_paper(web, [5])), True)

    def test_too_many(self):
        for call in (lambda: plain_paper(plain.alone(8), []), lambda: plain_paper(plain.alone(24), [3])):
            with self.assertRaises(TooMany) as caught:
                call()
            self.assertEqual((caught.exception.what, caught.exception.limit), ("leaves", 5040))
        paper = plain_paper(plain.alone(7), [])
        self.assertEqual([row[0] for row in paper[1]].count("leaf"), 5040)
        self.assertIs(is_name_paper(plain.alone(7), plain.alone(7), paper), True)


class Faults(unittest.TestCase):
    def check(self, web, path, told, value, expected):
        self.assertTrue(same_kinds(paper_fault(web, path, told, value), expected), (value, expected))
        self.assertIs(is_pointed_paper(web, path, told, value), expected is None)
        if path == []:
            self.assertIs(is_name_paper(web, told, value), expected is None)

    def test_changed_in_one_thing(self):
        seen = set()
        for number, (web, path, told, paper) in enumerate(some_papers(273)):
            if len(paper[1]) > 30:
                continue
            changed = changed_once(paper)
            for value in random.Random(number).sample(changed, min(30, len(changed))):
                expected = plain_fault(web, path, told, value)
                self.check(web, path, told, value, expected)
                seen.add(expected if isinstance(expected, str) else type(expected))
            for value in random.Random(number).sample(changed_once(told), 12):
                self.check(web, path, value, paper, None if same_kinds(value, told) else "form")
        self.assertEqual(seen, {"shape", "best", "form", int, type(None)})

    def test_each_row_replaced(self):
        rng = random.Random(274)
        for number, (web, path, told, paper) in enumerate(some_papers(275)):
            best, rows = paper
            if len(rows) > 12 or number % 3:
                continue
            many = len(web[0])
            others = [("leaf",), ("split",), ("later",), ("like", 0, list(range(many))), ("like", 0, some_numbering(rng, many))]
            others += [row for row in rows if row[0] == "like"]
            for place in range(len(rows) + 1):
                for other in others:
                    for value in (rows[:place] + [other] + rows[place + 1:], rows[:place] + [other] + rows[place:]):
                        self.check(web, path, told, (best, value), plain_fault(web, path, told, (best, value)))
                self.check(web, path, told, (best, rows[:place]), place if place < len(rows) else None)
                self.check(web, path, told, (best, rows[:place] + rows[place + 1:]),
                           plain_fault(web, path, told, (best, rows[:place] + rows[place + 1:])))
            self.check(web, path, told, (best, rows + [rows[-1]]), len(rows))

    def test_other_best_leaves(self):
        for number, (web, path, told, paper) in enumerate(some_papers(276)):
            if number % 3:
                continue
            for leaf, colouring in plain.leaves(web, [])[:12] + [(x, None) for x in ([], [0], path, path + [0])]:
                value = (leaf, paper[1])
                self.check(web, path, told, value, plain_fault(web, path, told, value))
                if colouring is not None:
                    far = renumbered(web, colouring)
                    self.check(web, path, far, value, plain_fault(web, path, far, value))
                    self.check(web, path, far, paper, None if far == told else "form")

    def test_leaves_of_unlike_depth(self):
        # Leaves below the same target, some of them one choice deeper, with unlike traces.
        wrong = 0
        webs = (plain.ring_with((4, -2, 4, 2) * 2), plain.UNEVEN)
        for web, best, colouring in [(web, *leaf) for web in webs for leaf in plain.leaves(web, [])]:
            self.assertGreater(len({len(leaf) for leaf, _ in plain.leaves(web, [])}), 1)
            best_traces = plain.traces(web, best)
            waits, rows = [[]], []
            while waits:
                here = waits.pop(0)
                cell = plain.target(plain.colouring_of(web, here))
                if plain.traces(web, here) > best_traces[:len(here) + 1]:
                    rows.append(("later",))
                elif cell is None:
                    rows.append(("leaf",))
                else:
                    rows.append(("split",))
                    waits = [here + [part] for part in cell] + waits
            told = renumbered(web, colouring)
            expected = plain_fault(web, [], told, (best, rows))
            self.check(web, [], told, (best, rows), expected)
            wrong += expected is not None
            for place in range(len(rows)):
                for word in ("leaf", "split", "later"):
                    value = (best, rows[:place] + [(word,)] + rows[place + 1:])
                    self.check(web, [], told, value, plain_fault(web, [], told, value))
        self.assertGreater(wrong, 3)

    def test_the_sequence(self):
        web = plain.ring(3)
        best, rows = plain_paper(web, [])
        for value in ANY_VALUES + [(), ([], [], []), [best, rows], (tuple(best), rows), (best, tuple(rows)), (best,)]:
            expected = "best" if type(value) is tuple and len(value) == 2 and [type(x) for x in value] == [list] * 2 else "shape"
            self.check(web, [], None, value, expected)
        for wrong in ([], [0], [0, 1, 2], [0, 0], [3, 1], ["0", 1], [False, True], [0, True], [None], [[0], 1]):
            self.check(web, [], None, (wrong, None), "shape")
            self.check(web, [], None, (wrong, [None]), "best")
        for wrong in ANY_VALUES + [plain.ring(4), plain.row(3), list(web), (web[0], web[1], [], ())]:
            self.check(web, [], wrong, (best, [None]), "form")
        for wrong in ANY_VALUES + [["leaf"], ("leaf", 1), ("Leaf",), ("split ",), (None,), ("like",), ("like", 0), (["leaf"],)]:
            self.check(web, [], web, (best, [wrong]), 0)
            self.check(web, [], web, (best, rows[:2] + [wrong] + rows[3:]), 2)
            self.check(web, [], web, (best, rows + [wrong]), len(rows))
        self.check(web, [], web, (best, []), 0)

    def test_like_rows(self):
        web = plain.alone(3)
        turn = [1, 2, 0]
        swap = [0, 2, 1]
        right = ([0, 1], [("split",), ("split",), ("leaf",), ("like", 1, swap), ("like", 0, [1, 0, 2]), ("like", 0, [2, 1, 0])])
        self.check(web, [], web, right, None)
        for place, row, expected in (
            (3, ("like", 1, [1, 2, 0]), 3), (3, ("like", 2, swap), 3), (3, ("like", 0, swap), 3), (3, ("like", True, swap), 3),
            (3, ("like", 1, tuple(swap)), 3), (3, ("like", 1, [0, 2]), 3), (3, ("like", -2, swap), 3), (3, ["like", 1, swap], 3),
            (4, ("like", 0, turn), None), (4, ("like", 1, [0, 1, 2]), 4), (5, ("like", 1, turn), None),
            (5, ("like", 0, turn), 5), (0, ("like", 0, [0, 1, 2]), 0), (1, ("like", 0, [0, 1, 2]), 1),
            (3, ("like", 1, [0, 2, True]), 3), (3, ("like", 1, None), 3), (3, ("like", None, swap), 3),
        ):
            rows = list(right[1])
            rows[place] = row
            self.check(web, [], web, (right[0], rows), expected)
        # Under a path its parts stay, and the given path itself is like none.
        self.check(web, [2], web, ([2, 0], [("split",), ("leaf",), ("like", 0, [1, 0, 2])]), None)
        self.check(web, [2], web, ([2, 0], [("split",), ("leaf",), ("like", 0, turn)]), 2)
        self.check(web, [2], web, ([2, 0], [("like", 0, [2, 1, 0])]), 0)
        # Not a symmetry.
        row = plain.row(3)
        self.check(row, [], pointed_form(row, []), ([0], [("split",), ("leaf",), ("like", 0, [2, 1, 0])]), None)
        self.check(row, [], pointed_form(row, []), ([0], [("split",), ("leaf",), ("like", 0, [1, 2, 0])]), 2)


if __name__ == "__main__":
    unittest.main()
