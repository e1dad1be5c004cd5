"""webnames.treenames: codes laid out [116], names of trees and of tree-shaped webs [117]."""

import random
import re
import unittest

from tests import plain
from tests.helper import ANY_VALUES, same_kinds, some_numbering
from tests.test_centres import some_tree
from tests.test_pairings import with_other_signs
from tests.test_treecodes import few_lays
from webnames.errors import HasRing, NotTreeName, TooMany
from webnames.lays import lay_code, lays
from webnames.names import name
from webnames.numberings import is_pairing, renumbered
from webnames.pieces import pieces
from webnames.search import quick_name
from webnames.treecodes import rooted_code, web_code
from webnames.treenames import (
    is_tree_name, laid_out, read_tree_name, tree_form, tree_name, tree_numbering, tree_pairing,
)
from webnames.webs import is_web

K = plain.K
PART = re.compile(r"([a-z]{1,4})(-?[0-9])([+-]?)")
TIE = re.compile(r"\(([0-9])([+-]?)")
SIGN = {"": 0, "+": 1, "-": -1}


def some_bushes(seed, many=60):
    """Tree-shaped webs of one tree and of several, some of them alike, some with parts of one kind."""
    rng = random.Random(seed)
    found = [plain.alone(0), plain.alone(1), plain.alone(24), plain.row(24), plain.star(6), plain.star(4, -1)]
    for number in range(many):
        trees = [some_tree(rng, rng.randrange(1, 8), rng.choice([3, 4, 6])) for _ in range(rng.randrange(1, 4))]
        if number % 2:
            trees = [([K] * len(tree[0]), *tree[1:]) for tree in trees]
        if number % 3 == 0 and len(trees) < 3:
            trees.append(renumbered(trees[0], some_numbering(rng, len(trees[0][0]))))
        web = plain.beside(*trees)
        found.append(renumbered(web, some_numbering(rng, len(web[0]))))
    return found


def plain_text(code):
    kind, mark, branches, hand = code
    told = f"{kind}{mark}" + {0: "", 1: "+", -1: "-"}[hand]
    for branch in branches:
        told += f"({branch[2]}" + {0: "", 1: "+", -1: "-"}[branch[5]] + plain_text((*branch[:2], *branch[3:5])) + ")"
    return told


def plain_read(text):
    """The web that a text tells, by regular expressions, None if it cannot be read."""
    parts, ties, hands, sides = [], [], [], []

    def part(rest):
        found = PART.match(rest)
        if found is None:
            return None
        if found.group(3):
            hands.append((len(parts), SIGN[found.group(3)]))
        parts.append((found.group(1), int(found.group(2))))
        here, rest = len(parts) - 1, rest[found.end():]
        while rest is not None and rest.startswith("("):
            tie = TIE.match(rest)
            if tie is None or len(parts) > 24:
                return None
            ties.append((here, len(parts), int(tie.group(1))))
            if tie.group(2):
                sides.append((here, len(parts), SIGN[tie.group(2)]))
            rest = part(rest[tie.end():])
            rest = rest[1:] if rest is not None and rest.startswith(")") else None
        return rest

    for code in text.split(".") if text else []:
        if part(code) != "":
            return None
    web = (parts, sorted(ties), sorted(hands), sorted(sides))
    return web if is_web(web) else None


class Names(unittest.TestCase):
    def test_names_are_equal_exactly_for_alike_webs(self):
        rng = random.Random(410)
        answers = []
        for web in some_bushes(411):
            far = renumbered(web, some_numbering(rng, len(web[0])))
            self.assertEqual(tree_name(far), tree_name(web))
            other = renumbered(with_other_signs(rng, web), some_numbering(rng, len(web[0])))
            alike = quick_name(web) == quick_name(other)
            self.assertIs(tree_name(web) == tree_name(other), alike)
            answers.append(alike)
            if len(web[0]) <= 5:
                self.assertIs(name(web) == name(other), alike)
        self.assertEqual(set(answers), {True, False})
        webs = some_bushes(412, 40)
        for web in webs:
            for other in webs:
                if sorted(web[0]) == sorted(other[0]):
                    self.assertIs(tree_name(web) == tree_name(other), quick_name(web) == quick_name(other))

    def test_one_thing_changed(self):
        rng = random.Random(413)
        answers = set()
        for web in some_bushes(414, 40):
            for other in changed_webs(rng, web):
                alike = quick_name(web) == quick_name(other)
                self.assertIs(tree_name(web) == tree_name(other), alike)
                answers.add(alike)
        self.assertEqual(answers, {True, False})

    def test_as_told(self):
        for web in some_bushes(415):
            codes = web_code(web)
            self.assertEqual(tree_name(web), ".".join(plain_text(code) for code in codes))
            told = tree_form(web)
            self.assertTrue(same_kinds(told, laid_out(codes)))
            self.assertIs(is_web(told), True)
            self.assertEqual(quick_name(told), quick_name(web))
            self.assertTrue(same_kinds(tree_form(renumbered(web, some_numbering(random.Random(1), len(web[0])))), told))
            self.assertEqual(tree_name(told), tree_name(web))
            numbering = tree_numbering(web)
            self.assertIs(is_pairing(web, told, numbering), True)
        self.assertEqual((tree_name(plain.alone(0)), tree_form(plain.alone(0))), ("", ([], [], [], [])))
        self.assertEqual(tree_name(([("zz", -9), ("a", 9)], [], [], [])), "a9.zz-9")
        self.assertEqual(tree_name(([("a", -1), ("a", 0)], [(0, 1, 4)], [], [])), "a-1(4a0)")
        self.assertEqual(tree_name(plain.star(3, 1)), "c0-(1k0)(1k0)(1k0)")
        # At the centres each sense of the side is met from both ends.
        self.assertEqual({tree_name(plain.double(sign)) for sign in (1, -1)}, {"k0(1k0)(1k0)(2-k0(1k0)(1k0))"})

    def test_pairings(self):
        rng = random.Random(416)
        answers = set()
        for web in some_bushes(417):
            other = renumbered(with_other_signs(rng, web), some_numbering(rng, len(web[0])))
            found = tree_pairing(web, other)
            alike = quick_name(web) == quick_name(other)
            self.assertIs(found is not None, alike)
            self.assertTrue(not alike or is_pairing(web, other, found))
            self.assertIs(is_pairing(web, web, tree_pairing(web, web)), True)
            answers.add(alike)
        self.assertEqual(answers, {True, False})
        self.assertIsNone(tree_pairing(plain.row(3), plain.row(4)))
        self.assertEqual(tree_pairing(plain.alone(0), plain.alone(0)), [])


def changed_webs(rng, web):
    """Webs that are this one but for one hand, side, order, kind or mark, renumbered."""
    parts, ties, hands, sides = web
    found = []
    for place, (a, sign) in enumerate(hands):
        found.append((parts, ties, hands[:place] + [(a, -sign)] + hands[place + 1:], sides))
        found.append((parts, ties, hands[:place] + hands[place + 1:], sides))
    for place, (a, b, sign) in enumerate(sides):
        found.append((parts, ties, hands, sides[:place] + [(a, b, -sign)] + sides[place + 1:]))
        found.append((parts, ties, hands, sides[:place] + sides[place + 1:]))
    for place, (a, b, order) in enumerate(ties):
        if not any(side[:2] == (a, b) for side in sides):
            found.append((parts, ties[:place] + [(a, b, order % 4 + 1)] + ties[place + 1:], hands, sides))
    for place, (kind, mark) in enumerate(parts):
        found.append((parts[:place] + [(kind + "a", mark)] + parts[place + 1:], ties, hands, sides))
        found.append((parts[:place] + [(kind, mark - 1)] + parts[place + 1:], ties, hands, sides))
    found = rng.sample(found, min(len(found), 8))
    return [renumbered(other, some_numbering(rng, len(parts))) for other in found]


class LaidOut(unittest.TestCase):
    def test_under_any_lays(self):
        rng = random.Random(418)
        for web, root in few_lays(419, 80, 7, 120):
            for lay in rng.sample(lays(web, root), min(4, len(lays(web, root)))):
                code = lay_code(web, root, lay)
                told = laid_out([code])
                self.assertIs(is_web(told), True)
                self.assertTrue(same_kinds(told, laid_out([code])))
                # Each row rises there, and the parts stand in reading sequence.
                rising = [[y for x, y, _ in told[1] if x == part] for part in range(len(told[0]))]
                self.assertEqual(lay_code(told, 0, rising), code)
                self.assertEqual(quick_name(told), quick_name(web))
                sequence = [0]
                for part in sequence:
                    self.assertEqual(rising[part], sorted(rising[part]))
                    sequence += rising[part]
                self.assertEqual(plain_reading(rising, 0), list(range(len(told[0]))))

    def test_in_any_sequence(self):
        rng = random.Random(420)
        for web in some_bushes(421, 30):
            codes = web_code(web)
            rng.shuffle(codes)
            told = laid_out(codes)
            self.assertIs(is_web(told), True)
            self.assertEqual(tree_name(told), tree_name(web))
            firsts = [piece[0] for piece in pieces(told)]
            self.assertEqual([rooted_code(told, first)[:2] for first in firsts], [code[:2] for code in codes])
            self.assertEqual([part for piece in pieces(told) for part in piece], list(range(len(told[0]))))
        self.assertEqual(laid_out([]), ([], [], [], []))

    def test_24_parts_and_25(self):
        one, row = ("k", 0, [], 0), rooted_code(plain.row(5), 0)
        for codes in ([one] * 24, [row] * 4 + [one] * 4, [rooted_code(plain.row(24), 3)], [one] + [rooted_code(plain.row(23), 9)]):
            self.assertEqual(len(laid_out(codes)[0]), 24)
            for more in ([one] + codes, codes + [one], codes + [row], codes * 2, codes * 20):
                with self.assertRaises(TooMany) as caught:
                    laid_out(more)
                self.assertEqual((caught.exception.what, caught.exception.limit), ("parts", 24))


def plain_reading(lay, part):
    return [part] + [x for child in lay[part] for x in plain_reading(lay, child)]


class Read(unittest.TestCase):
    def check(self, value, expected):
        self.assertIs(is_tree_name(value), expected is not None, value)
        if expected is not None:
            self.assertTrue(same_kinds(read_tree_name(value), expected))
            self.assertIs(is_web(expected), True)
        else:
            with self.assertRaises(NotTreeName) as caught:
                read_tree_name(value)
            if not isinstance(value, float):
                self.assertEqual(type(caught.exception.value), type(value))

    def test_names_read(self):
        for web in some_bushes(422):
            self.check(tree_name(web), tree_form(web))
            self.assertEqual(tree_name(read_tree_name(tree_name(web))), tree_name(web))

    def test_each_sign_changed(self):
        rng = random.Random(423)
        answers = []
        for web in some_bushes(424, 24):
            told = tree_name(web)
            texts = {told}
            for place in range(len(told) + 1):
                texts |= {told[:place] + told[place + 1:], told[:place] + told[place:place + 2][::-1] + told[place + 2:]}
                for sign in rng.sample("()+-.0129akz; A", 6):
                    texts |= {told[:place] + sign + told[place:], told[:place] + sign + told[place + 1:]}
            for text in sorted(texts):
                there = plain_read(text)
                right = there is not None and tree_name(there) == text
                self.check(text, there if right else None)
                answers.append(right)
        self.assertGreater(answers.count(True), 200)

    def test_told_ones(self):
        for text in ("k0", "k0.k0", "a-1(4a0)", "k0(1k0)(2-k0(1k0))", "c0-(1k0)(1k0)(1k0)", ".".join(["k0"] * 24), "zzzz-9"):
            self.check(text, plain_read(text))
        for text in (".", "k0.", ".k0", "k", "0", "k00", "k-0", "k+0", "k 0", "kkkkk0", "K0", "k0(", "k0)", "k0()", "k0(1)",
                     "k0(1k0", "k0(1k0))", "k0(0k0)", "k0(5k0)", "k0(k0)", "k0(1k0).", "k0(1.k0)", "k0(1k0.k0)", "b0.a0",
                     "k0(1k0(1k0))", "k0+", "k0+(1k0)(1k0)(1k0)", "k0(2+k0)", "k0(1-k0)(1k0)", "k10", "k0\n", " k0", "k0,k0",
                     "(1k0)", "((((" * 2000, ")" * 50, "-" * 8000, "k0(1" * 2000, ".".join(["k0"] * 25), "k0" * 24,
                     "k0" + "(1k0)" * 7, "k0" + "(1k0)" * 24, "k0(1b0)(1a0)"):
            self.check(text, None)
        for value in ANY_VALUES + [["k0"], ("k0",), b"k0", 0, True]:
            self.check(value, plain.alone(0) if value == "" and isinstance(value, str) else None)


class Rings(unittest.TestCase):
    def test_rings(self):
        web = plain.beside(plain.row(3), plain.ring(4), plain.ring(3))
        for function in (tree_name, tree_form, tree_numbering):
            with self.assertRaises(HasRing) as caught:
                function(web)
            self.assertEqual(caught.exception.part, 3)
        tree, later = plain.row(2), plain.beside(plain.row(4), plain.ring(5))
        for first, second, part in ((web, later, 3), (later, web, 4), (tree, web, 3), (later, tree, 4), (plain.alone(5), later, 4)):
            with self.assertRaises(HasRing) as caught:
                tree_pairing(first, second)
            self.assertEqual(caught.exception.part, part)


if __name__ == "__main__":
    unittest.main()
