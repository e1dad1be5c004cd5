"""webnames.commonpapers: trees that none is greater [136], greatest papers [137]."""

import random
import unittest
from unittest import mock

from tests import plain
from tests.helper import ANY_VALUES, NOT_COUNTS, changed_once, same_kinds
from tests.test_bounds import left_parts, plain_bound, plain_is_apart
from tests.test_common import plain_is_common, some_pairs
from webnames.bounds import common_size
from webnames.commonpapers import greatest_paper, is_greatest_paper, is_no_greater, no_greater_tree
from webnames.errors import InvalidMany, TooMany

K = plain.K
# Eight parts each, whose lazy tree for joined lists has more than 20,000 tuples.
HARD = (([K] * 8, [(0, 4, 1), (0, 7, 1), (1, 4, 1), (1, 7, 1), (2, 7, 1), (3, 4, 1), (4, 6, 1), (4, 7, 1), (5, 7, 1), (6, 7, 1)],
         [], []), ([K] * 8, [(1, 2, 1), (1, 7, 1), (2, 6, 1), (6, 7, 1)], [], []))


def branches(web, other, pairs, many):
    here, there = left_parts(web, other, pairs, many)
    return [(pairs, many + 1)] + [(pairs + [(many, b)], many + 1) for b in sorted(there) if there[b] == here[many]]


def plain_lazy(web, other, joined, most, pairs=(), many=0):
    """The lazy tree at a state, by the words of [136], None if there is none."""
    pairs = list(pairs)
    if plain_bound(web, other, pairs, many) <= most:
        return ("bound",)
    if joined and plain_is_apart(web, pairs, many):
        return ("apart",)
    if many == len(web[0]):
        return None
    rows = [plain_lazy(web, other, joined, most, *state) for state in branches(web, other, pairs, many)]
    return None if None in rows else ("split", rows)


def plain_judge(web, other, joined, most, value, pairs=(), many=0):
    """Whether any value is a tree at a state, by the words of [136]."""
    pairs = list(pairs)
    if same_kinds(value, ("bound",)):
        return plain_bound(web, other, pairs, many) <= most
    if same_kinds(value, ("apart",)):
        return joined and plain_is_apart(web, pairs, many)
    if type(value) is not tuple or len(value) != 2 or type(value[0]) is not str or value[0] != "split":
        return False
    if type(value[1]) is not list or many == len(web[0]):
        return False
    states = branches(web, other, pairs, many)
    return len(states) == len(value[1]) and all(
        plain_judge(web, other, joined, most, tree, *state) for tree, state in zip(value[1], states))


def eager(rng, web, other, joined, most, pairs=(), many=0):
    """A right tree that is split also where it need not be, None if there is none."""
    pairs = list(pairs)
    words = [("bound",)] if plain_bound(web, other, pairs, many) <= most else []
    words += [("apart",)] if joined and plain_is_apart(web, pairs, many) else []
    if words and (many == len(web[0]) or rng.random() < 0.6):
        return rng.choice(words)
    if many == len(web[0]):
        return None
    rows = [eager(rng, web, other, joined, most, *state) for state in branches(web, other, pairs, many)]
    return None if None in rows else ("split", rows)


def tuples_of(tree):
    return 1 if len(tree) == 1 else 1 + sum(tuples_of(x) for x in tree[1])


class Trees(unittest.TestCase):
    def test_lazy_trees(self):
        words = set()
        for web, other in some_pairs(510, 40, 5):
            for joined in (False, True):
                size = common_size(web, other, joined)
                for most in {0, max(size - 1, 0), size, size + 1, 24}:
                    tree = no_greater_tree(web, other, joined, most)
                    self.assertTrue(same_kinds(tree, plain_lazy(web, other, joined, most)))
                    self.assertIs(tree is None, size > most)
                    if tree is not None:
                        self.assertIs(is_no_greater(web, other, joined, most, tree), True)
                        words.add((joined, tree[0]))
        self.assertEqual(words, {(False, "bound"), (True, "bound"), (False, "split"), (True, "split")})

    def test_trees_made_anyhow(self):
        rng = random.Random(511)
        answers = []
        for web, other in some_pairs(512, 30, 4):
            for joined in (False, True):
                for most in range(5):
                    tree = eager(rng, web, other, joined, most)
                    self.assertIs(tree is not None, common_size(web, other, joined) <= most)
                    if tree is None:
                        continue
                    self.assertIs(is_no_greater(web, other, joined, most, tree), True)
                    changed = changed_once(tree)
                    for value in rng.sample(changed, min(12, len(changed))):
                        expected = plain_judge(web, other, joined, most, value)
                        self.assertIs(is_no_greater(web, other, joined, most, value), expected)
                        answers.append(expected)
                    for told, number in ((not joined, most), (joined, most + 1), (joined, max(most - 1, 0))):
                        expected = plain_judge(web, other, told, number, tree)
                        self.assertIs(is_no_greater(web, other, told, number, tree), expected)
                        answers.append(expected)
        self.assertGreater(answers.count(True), 100)
        self.assertGreater(answers.count(False), 500)

    def test_where_words_may_stand(self):
        three, pair = plain.alone(3), plain.row(2)
        self.assertIs(is_no_greater(three, pair, False, 2, ("bound",)), True)
        self.assertIs(is_no_greater(three, pair, False, 1, ("bound",)), False)
        self.assertIs(is_no_greater(three, pair, True, 1, ("apart",)), False)
        # Behind the last part nothing is split.
        whole = ("split", [("split", [("bound",)])])
        self.assertIs(is_no_greater(plain.alone(2), plain.alone(0), False, 0, whole), True)
        self.assertIs(is_no_greater(plain.alone(2), plain.alone(0), False, 0, ("split", [("split", [("split", [("bound",)])])])), False)
        self.assertIs(is_no_greater(plain.alone(2), plain.alone(0), False, 0, ("split", [("split", [])])), False)
        # Two parts in pairs that nothing joins any more.
        tree = ("split", [("bound",), ("split", [("bound",), ("apart",)]), ("split", [("bound",), ("apart",)])])
        self.assertIs(is_no_greater(plain.alone(2), plain.alone(2), True, 1, tree), True)
        self.assertIs(is_no_greater(plain.alone(2), plain.alone(2), False, 1, tree), False)

    def test_for_24_parts(self):
        ring = plain.ring(24)
        self.assertIs(is_no_greater(ring, ring, False, 24, ("bound",)), True)
        self.assertIs(is_no_greater(ring, ring, False, 23, ("bound",)), False)
        first, second = plain.alone(24), ([("x", 0)] * 24, [], [], [])
        tree = ("bound",)
        for _ in range(24):
            tree = ("split", [tree])
        self.assertIs(is_no_greater(first, second, True, 0, tree), True)
        self.assertIs(is_no_greater(first, second, True, 0, ("split", [tree])), False)

    def test_any_values(self):
        web, other = plain.row(3), plain.ring(3)
        for joined in (False, True):
            for value in ANY_VALUES + [["bound"], ("bound", 1), ("Bound",), ("split",), ("split", ()), ("split", None), ("split", [], 1)]:
                self.assertIs(is_no_greater(web, other, joined, 3, value), False)
                self.assertIs(is_greatest_paper(web, other, joined, value), False)
                self.assertIs(is_greatest_paper(web, other, joined, ([(0, 0), (1, 1)], value)), False)
                self.assertIs(is_greatest_paper(web, other, joined, (value, ("bound",))), False)


class Errors(unittest.TestCase):
    def test_most(self):
        nine = plain.alone(9)
        for most in NOT_COUNTS + [25, 100]:
            for call in (lambda: no_greater_tree(nine, nine, False, most), lambda: is_no_greater(nine, nine, True, most, None)):
                with self.assertRaises(InvalidMany) as caught:
                    call()
                self.assertTrue(same_kinds(caught.exception.value, most))
        for most in (0, 24):
            self.assertIs(is_no_greater(nine, nine, False, most, ("bound",)), most == 24)

    def test_parts(self):
        for web, other in ((plain.alone(9), plain.alone(0)), (plain.alone(0), plain.row(9)), (plain.alone(24), plain.alone(24))):
            for call in (lambda: no_greater_tree(web, other, False, 24), lambda: greatest_paper(web, other, True)):
                with self.assertRaises(TooMany) as caught:
                    call()
                self.assertEqual((caught.exception.what, caught.exception.limit), ("parts", 8))
        self.assertEqual(no_greater_tree(plain.alone(8), plain.alone(8), False, 8), ("bound",))

    def test_more_than_4000_tuples(self):
        web, other = HARD
        size = common_size(web, other, True)
        for call in (lambda: no_greater_tree(web, other, True, size), lambda: greatest_paper(web, other, True)):
            with self.assertRaises(TooMany) as caught:
                call()
            self.assertEqual((caught.exception.what, caught.exception.limit), ("nodes", 4000))
        # If some list has more pairs there is no tree that could have too many.
        self.assertIsNone(no_greater_tree(web, other, True, size - 1))
        self.assertIs(is_greatest_paper(web, other, False, greatest_paper(web, other, False)), True)
        # Without the limit it is a right one still; with a limit of as many tuples, too.
        for limit in (10 ** 6, 21226):
            with mock.patch("webnames.commonpapers.MOST_TUPLES", limit):
                tree = no_greater_tree(web, other, True, size)
            self.assertEqual(tuples_of(tree), 21226)
        self.assertIs(is_no_greater(web, other, True, size, tree), True)
        for first, second in some_pairs(513, 10, 5):
            tree = no_greater_tree(first, second, True, common_size(first, second, True))
            with mock.patch("webnames.commonpapers.MOST_TUPLES", tuples_of(tree) - 1), self.assertRaises(TooMany):
                no_greater_tree(first, second, True, common_size(first, second, True))


class Greatest(unittest.TestCase):
    def test_papers(self):
        for web, other in some_pairs(514, 60, 7):
            for joined in (False, True):
                paper = greatest_paper(web, other, joined)
                pairs, tree = paper
                self.assertIs(is_greatest_paper(web, other, joined, paper), True)
                self.assertIs(plain_is_common(web, other, joined, pairs), True)
                self.assertEqual(len(pairs), common_size(web, other, joined))
                self.assertTrue(same_kinds(tree, no_greater_tree(web, other, joined, len(pairs))))
                if pairs:
                    self.assertIs(is_greatest_paper(web, other, joined, (pairs[1:], tree)), False)

    def test_changed_in_one_thing(self):
        rng = random.Random(515)
        answers = []
        for web, other in some_pairs(516, 40, 4):
            for joined in (False, True):
                changed = changed_once(greatest_paper(web, other, joined))
                for value in rng.sample(changed, min(len(changed), 25)):
                    expected = type(value) is tuple and len(value) == 2 and plain_is_common(web, other, joined, value[0])
                    expected = expected and plain_judge(web, other, joined, len(value[0]), value[1])
                    self.assertIs(is_greatest_paper(web, other, joined, value), expected)
                    answers.append(expected)
        self.assertGreater(answers.count(True), 5)
        self.assertGreater(answers.count(False), 500)

    def test_of_unlike_joined(self):
        three = plain.alone(3)
        self.assertIs(is_greatest_paper(three, three, True, greatest_paper(three, three, True)), True)
        self.assertIs(is_greatest_paper(three, three, False, greatest_paper(three, three, True)), False)
        self.assertIs(is_greatest_paper(three, three, True, greatest_paper(three, three, False)), False)


if __name__ == "__main__":
    unittest.main()
