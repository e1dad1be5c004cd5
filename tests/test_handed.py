"""webnames.handed: seats and settings [101], own mirrors [102], what counts [103], choices [104]."""

import random
import unittest

from tests import plain
from tests.helper import ANY_VALUES, bearing_ties, changed_once, near, same_kinds, some_numbering, some_webs
from tests.test_fulltree import few_leaves
from webnames.errors import MissingHand, MissingSide
from webnames.handed import (
    contrary, counts_hand, counts_side, hand_choices, is_own_mirror, is_setting, mirror_pairing, own_setting, put_hand,
    put_setting, put_side, seats, side_choices,
)
from webnames.mirrors import mirror
from webnames.names import name
from webnames.numberings import is_pairing, renumbered
from webnames.webs import is_web


def webs_with_seats(seed, many=40, most=24):
    return plain.SHAPES + some_webs(seed, many, most)


def plain_seats(web):
    return [("hand", a) for a, _ in web[2]] + [("side", a, b) for a, b, _ in web[3]]


def small(seed, most=6, many=60):
    return [web for web in webs_with_seats(seed, many, most) if len(web[0]) <= most]


class Settings(unittest.TestCase):
    def test_seats(self):
        rng = random.Random(310)
        for web in webs_with_seats(311):
            found = seats(web)
            self.assertTrue(same_kinds(found, plain_seats(web)))
            own = own_setting(web)
            self.assertTrue(same_kinds(own, [sign for _, sign in web[2]] + [side[2] for side in web[3]]))
            self.assertIs(is_setting(web, own), True)
            setting = [rng.choice([1, -1]) for _ in own]
            put = put_setting(web, setting)
            self.assertTrue(is_web(put))
            self.assertEqual((put[0], put[1], seats(put), own_setting(put)), (web[0], web[1], found, setting))
            self.assertTrue(same_kinds(put_setting(web, own), web))
            there = contrary(web, setting)
            self.assertEqual(there, [-x if seat[0] == "hand" else x for seat, x in zip(found, setting)])
            self.assertEqual(mirror(put), put_setting(web, there))
            self.assertEqual(contrary(web, there), setting)

    def test_is_setting(self):
        web = plain.beside(plain.star(3, 1), plain.double(-1))
        for value, right in (([1, -1], True), ([-1, -1], True), ([1], False), ([1, 1, 1], False), ([], False), ((1, -1), False),
                             ([1, 0], False), ([True, 1], False), ([1, "1"], False), ([2, 1], False), ([1, None], False)):
            self.assertIs(is_setting(web, value), right)
        for value in ANY_VALUES:
            self.assertIs(is_setting(web, value), False)
            self.assertIs(is_setting(web, [1, value]), type(value) is int and value in (1, -1))
            self.assertIs(is_setting(plain.alone(2), value), type(value) is list and value == [])
        for value in changed_once([1, -1]):
            right = type(value) is list and len(value) == 2 and all(type(x) is int and x in (1, -1) for x in value)
            self.assertIs(is_setting(web, value), right)

    def test_put(self):
        for web in webs_with_seats(312):
            beside = near(web)
            for part in range(len(web[0])):
                if len(beside[part]) in (3, 4):
                    for sign in (1, -1):
                        hands = sorted([hand for hand in web[2] if hand[0] != part] + [(part, sign)])
                        self.assertTrue(same_kinds(put_hand(web, part, sign), (web[0], web[1], hands, web[3])))
                        self.assertTrue(is_web(put_hand(web, part, sign)))
            for a, b in bearing_ties(web):
                for sign in (1, -1):
                    sides = sorted([side for side in web[3] if side[:2] != (a, b)] + [(a, b, sign)])
                    self.assertTrue(same_kinds(put_side(web, a, b, sign), (web[0], web[1], web[2], sides)))
                    self.assertTrue(is_web(put_side(web, a, b, sign)))


class Mirrors(unittest.TestCase):
    def test_own_mirrors(self):
        seen = set()
        for web in small(313):
            known = plain.pairings(web, mirror(web))
            self.assertIs(is_own_mirror(web), bool(known))
            found = mirror_pairing(web)
            self.assertTrue(found in known if known else found is None)
            seen.add((bool(known), bool(web[2])))
        self.assertEqual(seen, {(True, True), (True, False), (False, True)})

    def test_by_names(self):
        for web in few_leaves(314, 1000, 40):
            self.assertIs(is_own_mirror(web), name(web) == name(mirror(web)))

    def test_greater_webs(self):
        rng = random.Random(315)
        unlike = [("c", 0), ("k", 1), ("k", 2), ("k", 3)]
        chiral = [(unlike, plain.star(3)[1], [(0, sign)], []) for sign in (1, -1)]
        for web, right in ((plain.beside(*[chiral[0]] * 6), False), (plain.beside(*chiral * 3), True),
                           (plain.beside(*chiral * 2, chiral[1], chiral[1]), False), (plain.ring(24), True),
                           (plain.beside(*[plain.star(3, 1)] * 6), True), (plain.twins((1, -1, 1, 1, -1, 1)), True)):
            far = renumbered(web, some_numbering(rng, len(web[0])))
            self.assertIs(is_own_mirror(far), right)
            found = mirror_pairing(far)
            self.assertTrue(is_pairing(far, mirror(far), found) if right else found is None)


class Counts(unittest.TestCase):
    def test_what_counts(self):
        seen = set()
        for web in small(316):
            for k, (part, sign) in enumerate(web[2]):
                turned = (web[0], web[1], web[2][:k] + [(part, -sign)] + web[2][k + 1:], web[3])
                expected = not plain.pairings(web, turned)
                self.assertIs(counts_hand(web, part), expected)
                seen.add(("hand", expected))
            for k, (a, b, sign) in enumerate(web[3]):
                turned = (web[0], web[1], web[2], web[3][:k] + [(a, b, -sign)] + web[3][k + 1:])
                expected = not plain.pairings(web, turned)
                self.assertIs(counts_side(web, a, b), expected)
                seen.add(("side", expected))
        self.assertEqual(len(seen), 4)

    def test_depending_on_other_seats(self):
        # A part between two equal branches with hands, and another branch.
        parts = [("c", 0), ("k", 0), ("k", 0), ("m", 0)] + [("a", 0), ("b", 0)] * 2
        ties = [(0, 1, 1), (0, 2, 1), (0, 3, 1), (1, 4, 1), (1, 5, 1), (2, 6, 1), (2, 7, 1)]
        for first in (1, -1):
            for second in (1, -1):
                for middle in (1, -1):
                    web = (parts, ties, [(0, middle), (1, first), (2, second)], [])
                    self.assertIs(counts_hand(web, 0), first != second)
                    self.assertIs(counts_hand(web, 1), True)
                    self.assertEqual(0 in hand_choices(web), first != second)

    def test_missing(self):
        web = plain.beside(plain.star(3, 1), plain.double())
        for part in (1, 4):
            with self.assertRaises(MissingHand) as caught:
                counts_hand(web, part)
            self.assertEqual(caught.exception.part, part)
        for a, b in ((0, 1), (4, 6), (1, 2)):
            with self.assertRaises(MissingSide) as caught:
                counts_side(web, a, b)
            self.assertEqual((caught.exception.a, caught.exception.b), (a, b))
        self.assertIs(counts_hand(web, 0), False)
        self.assertIs(counts_side(web, 4, 5), False)


class Choices(unittest.TestCase):
    def test_choices(self):
        seen = set()
        for web in small(317):
            beside = near(web)
            hands = []
            for part in range(len(web[0])):
                if len(beside[part]) in (3, 4):
                    others = [hand for hand in web[2] if hand[0] != part]
                    put = [(web[0], web[1], sorted(others + [(part, sign)]), web[3]) for sign in (1, -1)]
                    if not plain.pairings(*put):
                        hands.append(part)
            sides = []
            for a, b in bearing_ties(web):
                others = [side for side in web[3] if side[:2] != (a, b)]
                put = [(web[0], web[1], web[2], sorted(others + [(a, b, sign)])) for sign in (1, -1)]
                if not plain.pairings(*put):
                    sides.append((a, b))
            self.assertTrue(same_kinds(hand_choices(web), hands))
            self.assertTrue(same_kinds(side_choices(web), sides))
            for part, _ in web[2]:
                self.assertIs(part in hands, counts_hand(web, part))
            for a, b, _ in web[3]:
                self.assertIs((a, b) in sides, counts_side(web, a, b))
            seen.add((bool(hands), bool(sides)))
        self.assertEqual(len(seen), 4)

    def test_told_ones(self):
        row = plain.row(4, orders=(1, 2, 1))
        self.assertEqual((hand_choices(row), side_choices(row)), ([], [(1, 2)]))
        ends = (plain.K, ("b", 0), plain.K, ("b", 0))
        self.assertEqual(side_choices(plain.double(1, ends)), [(0, 1)])
        self.assertEqual(side_choices(plain.double(1)), [])
        unlike = ([("c", 0), ("a", 0), ("b", 0), ("d", 0)], plain.star(3)[1], [], [])
        self.assertEqual(hand_choices(unlike), [0])
        self.assertEqual(hand_choices(renumbered(unlike, [3, 0, 1, 2])), [3])
        self.assertEqual(hand_choices(plain.star(3)), [])
        self.assertEqual((hand_choices(plain.alone(0)), side_choices(plain.alone(0))), ([], []))


if __name__ == "__main__":
    unittest.main()
