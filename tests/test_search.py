"""webnames.search: the search turn by turn [81], [82], what it finds [83], its limits and the quick functions [84]."""

import copy
import random
import unittest

from tests import plain
from tests.helper import NOT_COUNTS, group_of, same_kinds, some_numbering, some_webs
from tests.test_fulltree import few_leaves
from tests.test_pairings import with_other_signs
from tests.test_prune import plain_kept_orbit
from webnames.errors import InvalidMany, TooMany
from webnames.fulltree import best_leaves, key_of_leaf, least_key, leaves_below
from webnames.names import form, name, pointed_form
from webnames.numberings import is_pairing, renumbered
from webnames.pairings import first_pairing
from webnames.search import (
    Search, quick_form, quick_name, quick_numbering, quick_pairing, quick_pointed, searched,
)


class PlainSearch:
    """The search by the words of [81], with nothing kept but what they name."""

    def __init__(self, web, path):
        self.web, self.given = web, list(path)
        self.waits, self.best, self.saw, self.found, self.nodes = [list(path)], None, [], [], 0

    def is_spared(self, path):
        return any(plain_kept_orbit(self.found, path[:i], path[i])[0] < path[i]
                   for i in range(len(self.given), len(path)))

    def turn(self):
        if not self.waits:
            return None
        path = self.waits.pop(0)
        if self.is_spared(path):
            return ("spared", path)
        self.nodes += 1
        told = plain.traces(self.web, path)
        if self.best is not None and told > plain.traces(self.web, self.best)[:len(told)]:
            return ("later", path)
        colouring = plain.colouring_of(self.web, path)
        cell = plain.target(colouring)
        if cell is not None:
            self.waits = [path + [part] for part in cell] + self.waits
            return ("split", path)
        key = plain.leaf_key(self.web, path)
        for seen in self.saw:
            if plain.leaf_key(self.web, seen) == key:
                there = plain.colouring_of(self.web, seen)
                self.found.append([colouring.index(colour) for colour in there])
                return ("found", path)
        self.saw.append(path)
        if self.best is None or key < plain.leaf_key(self.web, self.best):
            self.best = path
        return ("leaf", path)


def some_searches(seed):
    rng = random.Random(seed)
    for web in few_leaves(seed, 100, 40):
        web = renumbered(web, some_numbering(rng, len(web[0])))
        for path in [[]] + plain.paths_of(rng, len(web[0]), (1, 2)):
            yield web, path
    # Like parts with unlike traces behind them.
    for web in (plain.beside(plain.ring(3), plain.ring(4)), plain.ring_with((4, -2, 4, 2) * 2)) * 12:
        yield renumbered(web, some_numbering(rng, len(web[0]))), []


class Turns(unittest.TestCase):
    def test_turn_by_turn(self):
        words = {}
        for web, path in some_searches(260):
            search, other = Search(web, path), PlainSearch(web, path)
            while True:
                self.assertEqual(search.best(), other.best)
                self.assertEqual(search.found(), other.found)
                self.assertEqual(search.waiting(), other.waits)
                self.assertEqual(search.nodes(), other.nodes)
                self.assertIs(search.has_ended(), not other.waits)
                told = other.turn()
                self.assertTrue(same_kinds(search.turn(), told))
                if told is None:
                    break
                words[told[0]] = words.get(told[0], 0) + 1
            self.assertEqual(searched(web, path), (other.best, other.found, other.nodes))
            self.assertIsNone(search.turn())
        self.assertEqual(set(words), {"spared", "later", "found", "leaf", "split"})
        self.assertGreater(min(words.values()), 10, words)

    def test_greater_ones(self):
        for web in (plain.alone(7), plain.beside(plain.ring(3), plain.ring(3), plain.ring(4)), plain.twins((1, -1, 1)),
                    plain.beside(plain.star(3, 1), plain.star(3, -1)), plain.cube([1, 1, -1, 1, 1, -1, 1, 1])):
            search, other = Search(web, []), PlainSearch(web, [])
            while not search.has_ended():
                self.assertEqual(search.turn(), other.turn())
            self.assertEqual((search.best(), search.found(), search.nodes()), (other.best, other.found, other.nodes))

    def test_always(self):
        for web, path in some_searches(261):
            search = Search(web, path)
            keys = {tuple(leaf): plain.leaf_key(web, leaf) for leaf in leaves_below(web, path)}
            had = []
            while not search.has_ended():
                word, there = search.turn()
                if word in ("found", "leaf"):
                    had.append(there)
                best = search.best()
                if best is None:
                    self.assertEqual(had, [])
                    continue
                least = min(keys[tuple(leaf)] for leaf in had)
                self.assertEqual(best, min(leaf for leaf in had if keys[tuple(leaf)] == least))
                waiting = search.waiting()
                for leaf, key in keys.items():
                    waits = any(list(leaf[:len(x)]) == x for x in waiting)
                    self.assertTrue(list(leaf) in had or waits or key >= least)

    def test_what_is_found(self):
        for web, path in some_searches(262):
            best, found, _ = searched(web, path)
            self.assertEqual(best, best_leaves(web, path)[0])
            self.assertTrue(all(is_pairing(web, web, p) and all(p[x] == x for x in path) for p in found))
            if len(web[0]) <= 6:
                kept = [p for p in plain.pairings(web, web) if all(p[x] == x for x in path)]
                self.assertEqual(group_of(len(web[0]), found), {tuple(p) for p in kept})

    def test_the_empty_web(self):
        search = Search(([], [], [], []), [])
        self.assertEqual((search.waiting(), search.best(), search.found(), search.nodes()), ([[]], None, [], 0))
        self.assertIs(search.has_ended(), False)
        self.assertEqual(search.turn(), ("leaf", []))
        self.assertEqual((search.waiting(), search.best(), search.nodes(), search.turn()), ([], [], 1, None))
        self.assertIs(search.has_ended(), True)

    def test_lists_are_new(self):
        web, path = copy.deepcopy(plain.ring(4)), [1]
        search, expected = Search(web, path), PlainSearch(plain.ring(4), [1])
        path.append(2)
        for rows in web:
            rows.clear()
        while not search.has_ended():
            word, there = search.turn()
            self.assertEqual((word, there), expected.turn())
            there.append(99)
            for rows in (search.waiting(), search.found(), search.best() or []):
                for row in rows:
                    if isinstance(row, list):
                        row.append(99)
                rows.append(99)
        self.assertEqual((search.best(), search.found()), (expected.best, expected.found))


class Limits(unittest.TestCase):
    def test_invalid_many(self):
        for most in NOT_COUNTS + [0, 130001, 10 ** 29]:
            with self.assertRaises(InvalidMany) as caught:
                Search(plain.ring(3), [], most)
            self.assertTrue(same_kinds(caught.exception.value, most))
        for most in (1, 130000):
            self.assertEqual(Search(plain.alone(1), [], most).turn(), ("leaf", []))
        self.assertEqual(Search(web=plain.alone(1), path=[], most=5).nodes(), 0)

    def test_a_low_limit(self):
        for web in (plain.ring(4), plain.alone(4), plain.beside(plain.ring(3), plain.ring(3)), plain.star(3, 1)):
            nodes = searched(web, [])[2]
            for most in range(1, nodes):
                search = Search(web, [], most)
                told = []
                with self.assertRaises(TooMany) as caught:
                    while True:
                        told.append(search.turn())
                self.assertEqual((caught.exception.what, caught.exception.limit), ("nodes", most))
                self.assertEqual(len([x for x in told if x[0] != "spared"]), most)
                self.assertEqual(search.nodes(), most)
                self.assertIs(search.has_ended(), False)
                # Nothing changes by the call that raises.
                state = (search.best(), search.found(), search.waiting(), search.nodes())
                self.assertRaises(TooMany, search.turn)
                self.assertEqual((search.best(), search.found(), search.waiting(), search.nodes()), state)
            search = Search(web, [], nodes)
            while search.turn():
                pass
            self.assertEqual((search.nodes(), search.has_ended()), (nodes, True))

    def test_spared_paths_take_no_node(self):
        web = plain.alone(3)
        nodes = searched(web, [])[2]
        search = Search(web, [], nodes)
        words = []
        while not search.has_ended():
            words.append(search.turn()[0])
        self.assertIn("spared", words[words.index("found"):])


class Quick(unittest.TestCase):
    def test_agree(self):
        rng = random.Random(263)
        for web in few_leaves(264, 5040, 60):
            self.assertTrue(same_kinds(quick_form(web), form(web)))
            self.assertEqual(quick_name(web), name(web))
            self.assertEqual(renumbered(web, quick_numbering(web)), form(web))
            self.assertEqual(quick_numbering(web), plain.colouring_of(web, best_leaves(web, [])[0]))
            for path in plain.paths_of(rng, len(web[0]), (0, 1, 2)):
                self.assertTrue(same_kinds(quick_pointed(web, path), pointed_form(web, path)))
                best = searched(web, path)[0]
                self.assertEqual((best, key_of_leaf(web, best)), (best_leaves(web, path)[0], least_key(web, path)))

    def test_pairings(self):
        rng = random.Random(265)
        webs = plain.SHAPES + some_webs(266, 30)
        for web in webs:
            p = some_numbering(rng, len(web[0]))
            for other in (renumbered(web, p), renumbered(with_other_signs(rng, web), p), rng.choice(webs)):
                found = quick_pairing(web, other)
                if first_pairing(web, other) is None:
                    self.assertIsNone(found)
                else:
                    self.assertTrue(is_pairing(web, other, found))

    def test_24_parts(self):
        rng = random.Random(267)
        six = [plain.star(3, sign) for sign in (1, -1, 1, 1, -1, 1)]
        for web in (plain.ring(24), plain.alone(24), plain.beside(*[plain.ring(3)] * 8), plain.beside(*[plain.row(2)] * 12),
                    plain.beside(*[plain.ring(4)] * 6), plain.beside(*six), plain.beside(*[plain.cube()] * 3),
                    plain.ladder(12), plain.beside(*[plain.double(s) for s in (1, -1, 1, -1)]),
                    plain.twins((1, -1, 1, 1, -1, 1))):
            told = quick_form(web)
            far = renumbered(web, some_numbering(rng, len(web[0])))
            self.assertEqual(quick_form(far), told)
            self.assertEqual(quick_name(far), quick_name(web))
            self.assertEqual(renumbered(far, quick_numbering(far)), told)
            self.assertTrue(is_pairing(far, web, quick_pairing(far, web)))
        self.assertIsNone(quick_pairing(plain.beside(*[plain.ring(3)] * 8), plain.beside(*[plain.ring(3)] * 6, plain.ring(6))))
        self.assertEqual(quick_form(plain.alone(24)), plain.alone(24))
        self.assertEqual(searched(plain.alone(24), [])[2], 300)

    def test_beyond_the_limit(self):
        rng = random.Random(1)
        signs = [[rng.choice([1, -1]) for _ in range(8)] for _ in range(3)]
        web = plain.beside(*[plain.cube(row) for row in signs])
        with self.assertRaises(TooMany) as caught:
            quick_pairing(web, plain.alone(1))
        self.assertEqual((caught.exception.what, caught.exception.limit), ("nodes", 130000))


if __name__ == "__main__":
    unittest.main()
