"""webnames.levels: settled hands and sides [91], views [92], apart trees [93], levels [94]."""

import random
import unittest

from tests import plain
from tests.helper import ANY_VALUES, changed_once, same_kinds, sign_of_sequence, some_numbering, some_webs
from tests.test_pairings import with_other_signs
from webnames.levels import apart_tree, is_apart_tree, leading, level_path, settled_hand, settled_sides, view
from webnames.numberings import is_pairing, renumbered
from webnames.paths import first_leaf, is_leaf, path_led, traces_to


def near(web, part):
    return sorted(tie[2] for tie in plain.ties(web, part))


def plain_worths(web, colouring):
    """The worth of each hand and of all sides, 0 where it is not settled."""
    hands, sides = {}, {}
    for part, sign in web[2]:
        row = near(web, part)
        colours = [colouring[x] for x in row]
        by_colour = sorted(row, key=lambda x: colouring[x])
        hands[part] = sign * sign_of_sequence(by_colour) if len(set(colours)) == len(row) else 0
    for a, b, sign in web[3]:
        rows = [[x for x in near(web, a) if x != b], [y for y in near(web, b) if y != a]]
        worth = sign
        for row in rows:
            if len({colouring[x] for x in row}) < len(row):
                worth = 0
            elif min(row, key=lambda x: colouring[x]) != row[0]:
                worth = -worth
        sides[(a, b)] = worth
    return hands, sides


def plain_view(web, path):
    colouring = plain.colouring_of(web, path)
    hands, sides = plain_worths(web, colouring)

    def pair(a, b):
        return tuple(sorted([colouring[a], colouring[b]]))

    return (
        [colouring[part] for part in path],
        sorted((colouring[part], *web[0][part]) for part in range(len(web[0]))),
        sorted((*pair(a, b), order) for a, b, order in web[1]),
        sorted((colouring[part], worth) for part, worth in hands.items() if worth),
        sorted((*pair(a, b), worth) for (a, b), worth in sides.items() if worth),
    )


def plain_tree(web, path, other, way):
    if plain_view(web, path) != plain_view(other, way):
        return ("view",)
    cell, far = (plain.target(plain.colouring_of(w, x)) for w, x in ((web, path), (other, way)))
    if cell is None:
        return None
    rows = [plain_tree(web, path + cell[:1], other, way + [y]) for y in far]
    return None if None in rows else ("split", rows)


def small(seed, most=6, many=40):
    return [web for web in plain.SHAPES + some_webs(seed, many, most) if len(web[0]) <= most]


def pairs_of_paths(seed):
    """`(web, path, other, way)`: paths led, paths of the web itself, of webs with other signs, and of unlike webs."""
    rng = random.Random(seed)
    webs = small(seed)
    for web in webs:
        p = some_numbering(rng, len(web[0]))
        signs = with_other_signs(rng, web)
        for path in [[]] + plain.paths_of(rng, len(web[0]), (1, 2)):
            yield web, path, renumbered(web, p), path_led(path, p)
            yield web, path, web, rng.sample(range(len(web[0])), len(path))
            yield web, path, renumbered(signs, p), path_led(path, p)
            other = rng.choice(webs)
            if len(other[0]) >= len(path):
                yield web, path, other, rng.sample(range(len(other[0])), len(path))
    # Unlike webs that no view parts at once.
    four = plain.all_tied(4)
    for signs in plain.all_signs(4):
        for path, way in (([], []), ([0], [3])):
            yield (four[0], four[1], [(k, 1) for k in range(4)], []), path, (four[0], four[1], list(enumerate(signs)), []), way
    for web, other in ((plain.ring(6), plain.beside(plain.ring(3), plain.ring(3))),
                       (plain.ring_with((3, -2, 2) * 2), plain.ring_with((3,) * 6))):
        yield web, [], other, []
        yield other, [], web, []


class Views(unittest.TestCase):
    def test_views(self):
        rng = random.Random(280)
        settled = set()
        for web in plain.SHAPES + some_webs(281, 40):
            for path in plain.paths_of(rng, len(web[0]), (0, 1, 2, 3, 24)):
                found = view(web, path)
                self.assertTrue(same_kinds(found, plain_view(web, path)))
                hands, sides = plain_worths(web, plain.colouring_of(web, path))
                for part in range(len(web[0])):
                    self.assertTrue(same_kinds(settled_hand(web, path, part), hands.get(part, 0)))
                for a, b, _ in web[1]:
                    self.assertTrue(same_kinds(settled_sides(web, path, a, b), sides.get((a, b), 0)))
                    self.assertTrue(same_kinds(settled_sides(web, path, b, a), sides.get((a, b), 0)))
                settled |= {("hand", x) for x in hands.values()} | {("side", x) for x in sides.values()}
                p = some_numbering(rng, len(web[0]))
                self.assertEqual(view(renumbered(web, p), path_led(path, p)), found)
        self.assertEqual(settled, {(word, worth) for word in ("hand", "side") for worth in (-1, 0, 1)})
        self.assertEqual(settled_sides(plain.alone(2), [], 0, 1), 0)
        self.assertEqual(view(plain.alone(0), []), ([], [], [], [], []))

    def test_leaves(self):
        # At a leaf all is settled, and an equal view gives a pairing.
        rng = random.Random(282)
        for web in plain.SHAPES + some_webs(283, 30):
            leaf = first_leaf(web, [])
            self.assertEqual(len(view(web, leaf)[3]), len(web[2]))
            self.assertEqual(len(view(web, leaf)[4]), len(web[3]))
            p = some_numbering(rng, len(web[0]))
            far, way = renumbered(web, p), path_led(leaf, p)
            self.assertEqual(view(far, way), view(web, leaf))
            first, second = plain.colouring_of(web, leaf), plain.colouring_of(far, way)
            self.assertTrue(is_pairing(web, far, [second.index(colour) for colour in first]))

    def test_told_ones(self):
        star = plain.star(3, 1)
        self.assertEqual([settled_hand(star, path, 0) for path in ([], [1], [1, 2], [2, 1], [3, 1], [1, 2, 3])],
                         [0, 0, plain_worths(star, plain.colouring_of(star, [1, 2]))[0][0]] +
                         [plain_worths(star, plain.colouring_of(star, path))[0][0] for path in ([2, 1], [3, 1], [1, 2, 3])])
        self.assertEqual(settled_hand(star, [1, 2], 0), -settled_hand(star, [2, 1], 0))
        double = plain.double()
        self.assertEqual([settled_sides(double, path, 0, 1) for path in ([], [2], [4], [2, 4], [2, 5], [3, 4], [3, 5])],
                         [0, 0, 0, 1, -1, -1, 1])


class Trees(unittest.TestCase):
    def test_there_is_one_or_there_is_a_pairing(self):
        seen = set()
        for web, path, other, way in pairs_of_paths(284):
            known = plain.leading_pairings(web, path, other, way)
            tree = plain_tree(web, path, other, way)
            self.assertIs(tree is None, bool(known))
            self.assertTrue(same_kinds(apart_tree(web, path, other, way), tree))
            found = leading(web, path, other, way)
            self.assertTrue(found in known if known else found is None)
            if tree is not None:
                self.assertIs(is_apart_tree(web, path, other, way, tree), True)
            for value in (None, ("view",), ("split", []), ("split", [("view",)])):
                self.assertIs(is_apart_tree(web, path, other, way, value), tree is not None and same_kinds(value, tree))
            seen.add(None if tree is None else tree[0] if tree[0] == "view" else "deep")
        self.assertEqual(seen, {None, "view", "deep"})

    def test_alike(self):
        # Two webs are unlike exactly if the empty paths have an apart tree.
        webs = small(285, 5)
        for web in webs[::3]:
            for other in webs[::5]:
                self.assertIs(apart_tree(web, [], other, []) is None, bool(plain.pairings(web, other)))

    def test_changed_in_one_thing(self):
        seen = set()
        for number, (web, path, other, way) in enumerate(pairs_of_paths(286)):
            tree = plain_tree(web, path, other, way)
            if tree is not None and number % 3 == 0:
                changed = changed_once(tree)
                for value in random.Random(number).sample(changed, min(40, len(changed))):
                    self.assertIs(is_apart_tree(web, path, other, way, value), same_kinds(value, tree))
                seen.add(tree[0])
        self.assertEqual(seen, {"view", "split"})
        web, other = plain.star(4, 1), ([("c", 0), ("k", 1), ("k", 1), ("k", 2), ("k", 2)], plain.star(4)[1], [(0, 1)], [])
        for web, path, other, way in ((web, [1, 2], web, [2, 1]), (other, [], other, []), (plain.ring(3), [0], plain.ring(4), [0]),
                                      (plain.alone(0), [], plain.alone(0), []), (plain.alone(24), [], plain.ring(24), [])):
            tree = plain_tree(web, path, other, way) if len(web[0]) < 24 else ("view",)
            for value in ANY_VALUES + [["view"], ("view", 1), ("view", []), ("split",), ("split", None), ("split", ()),
                                       ("split", [None]), ("split", [("view",)] * 3), ("split", [("view",)] * 2)]:
                self.assertIs(is_apart_tree(web, path, other, way, value), tree is not None and same_kinds(value, tree))

    def test_deep_values(self):
        web = plain.alone(24)
        value = ("view",)
        for many in range(24, 1, -1):
            value = ("split", [value] * 2)
            if many > 21:
                self.assertIs(is_apart_tree(web, [], web, [], value), False)
        # As many rows at each level as there are parts to choose from; no tree, as there is a pairing.
        value = ("view",)
        for many in range(2, 5):
            value = ("split", [value] * many)
        self.assertIs(is_apart_tree(plain.alone(4), [], plain.alone(4), [], value), False)
        nested = ("view",)
        for _ in range(99):
            nested = ("split", [nested])
        self.assertIs(is_apart_tree(plain.ring(3), [], plain.ring(3), [], nested), False)

    def test_24_parts(self):
        rng = random.Random(287)
        rings, other = plain.beside(*[plain.ring(3)] * 8), plain.beside(*[plain.ring(3)] * 6, plain.ring(6))
        self.assertIsNone(leading(rings, [], other, []))
        six = plain.beside(*[plain.star(3, sign) for sign in (1, -1, 1, 1, -1, 1)])
        for web in (plain.alone(24), plain.ring(24), rings, plain.ladder(12), six, plain.beside(*[plain.cube()] * 3)):
            p = some_numbering(rng, 24)
            far = renumbered(web, p)
            for path in plain.paths_of(rng, 24, (0, 1, 2, 5)):
                found = leading(web, path, far, path_led(path, p))
                self.assertTrue(is_pairing(web, far, found))
                self.assertEqual(path_led(path, found), path_led(path, p))
                self.assertIsNone(apart_tree(web, path, far, path_led(path, p)))
        self.assertEqual(apart_tree(plain.ring(24), [], plain.beside(plain.ring(12), plain.ring(12)), []),
                         ("split", [("view",)] * 24))
        self.assertEqual(apart_tree(plain.ring(24), [0, 5], plain.ring(24), [3, 9]), ("view",))
        self.assertEqual(leading(plain.ring(24), [0, 5], plain.ring(24), [9, 4]), [(9 - k) % 24 for k in range(24)])


class LevelPaths(unittest.TestCase):
    def test_level_paths(self):
        rng = random.Random(288)
        for web in plain.SHAPES + some_webs(289, 30):
            for path in plain.paths_of(rng, len(web[0])):
                leaf = list(path)
                while plain.target(plain.colouring_of(web, leaf)):
                    leaf.append(plain.target(plain.colouring_of(web, leaf))[0])
                self.assertEqual(level_path(web, path), leaf)
                self.assertTrue(is_leaf(web, leaf))
                self.assertEqual(traces_to(web, level_path(web, path))[-1], [1] * len(web[0]))


if __name__ == "__main__":
    unittest.main()
