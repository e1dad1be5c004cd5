"""webnames.mirrors: mirrors, bare webs, turned hands and sides, signs [7], [18]."""

import random
import unittest

from tests.helper import same_kinds, some_numbering, some_webs
from webnames.errors import MissingHand, MissingSide
from webnames.mirrors import bare, hand_parts, mirror, side_ties, signs, turned_hand, turned_side, with_signs
from webnames.numberings import renumbered
from webnames.webs import is_web


class Mirrors(unittest.TestCase):
    def test_mirror_and_bare(self):
        for web in some_webs(21):
            parts, ties, hands, sides = web
            self.assertEqual(mirror(web), (parts, ties, [(part, -sign) for part, sign in hands], sides))
            self.assertEqual(mirror(mirror(web)), web)
            self.assertEqual(bare(web), (parts, ties, [], []))

    def test_told(self):
        for web in some_webs(22):
            self.assertEqual(hand_parts(web), [hand[0] for hand in web[2]])
            self.assertTrue(same_kinds(side_ties(web), [(side[0], side[1]) for side in web[3]]))
            expected = ([hand[1] for hand in web[2]], [side[2] for side in web[3]])
            self.assertTrue(same_kinds(signs(web), expected))
            self.assertEqual(with_signs(web, *signs(web)), web)

    def test_with_signs(self):
        rng = random.Random(23)
        for web in some_webs(24):
            hands = [rng.choice([1, -1]) for _ in web[2]]
            sides = [rng.choice([1, -1]) for _ in web[3]]
            other = with_signs(web, hands, sides)
            self.assertIs(is_web(other), True)
            self.assertEqual(signs(other), (hands, sides))
            self.assertEqual((other[:2], hand_parts(other), side_ties(other)),
                             (web[:2], hand_parts(web), side_ties(web)))

    def test_turned(self):
        turned = 0
        for web in some_webs(25):
            for part in range(len(web[0])):
                if part in hand_parts(web):
                    hands = [(a, -sign if a == part else sign) for a, sign in web[2]]
                    self.assertEqual(turned_hand(web, part), (web[0], web[1], hands, web[3]))
                    turned += 1
                else:
                    with self.assertRaises(MissingHand) as caught:
                        turned_hand(web, part)
                    self.assertEqual(caught.exception.part, part)
            for a in range(len(web[0])):
                for b in range(len(web[0])):
                    ends = (min(a, b), max(a, b))
                    if ends in side_ties(web):
                        sides = [(c, d, -sign if (c, d) == ends else sign) for c, d, sign in web[3]]
                        self.assertEqual(turned_side(web, a, b), (web[0], web[1], web[2], sides))
                        turned += 1
                    elif a != b:
                        with self.assertRaises(MissingSide) as caught:
                            turned_side(web, a, b)
                        self.assertEqual((caught.exception.a, caught.exception.b), (a, b))
        self.assertGreater(turned, 50)

    def test_facts_of_renumbering(self):
        rng = random.Random(26)
        for web in some_webs(27, 60):
            p = some_numbering(rng, len(web[0]))
            other = renumbered(web, p)
            self.assertEqual(renumbered(mirror(web), p), mirror(other))
            self.assertEqual(renumbered(bare(web), p), bare(other))
            for part in hand_parts(web):
                self.assertEqual(renumbered(turned_hand(web, part), p), turned_hand(other, p[part]))
            for a, b in side_ties(web):
                self.assertEqual(renumbered(turned_side(web, a, b), p), turned_side(other, p[a], p[b]))


if __name__ == "__main__":
    unittest.main()
