"""webnames.pieces: pieces [31], the web of some parts and webs put together [32]."""

import random
import unittest

from tests.helper import bearing_ties, near, some_web, some_webs
from webnames.errors import TooMany
from webnames.numberings import renumbered
from webnames.pieces import merged_pieces, piece_numbering, piece_web, pieces, put_together
from webnames.webs import is_web

K = ("k", 0)


def plain_pieces(web):
    """The pieces, by bringing together the pieces of the ends of each tie."""
    found = [{part} for part in range(len(web[0]))]
    for a, b, _ in web[1]:
        both = [piece for piece in found if a in piece or b in piece]
        found = [piece for piece in found if piece not in both] + [set().union(*both)]
    return sorted(sorted(piece) for piece in found)


class Pieces(unittest.TestCase):
    def test_both_ways(self):
        for web in some_webs(80, 80):
            self.assertEqual(pieces(web), plain_pieces(web))
            self.assertEqual(merged_pieces(web), plain_pieces(web))
        self.assertEqual(pieces(([], [], [], [])), [])
        self.assertEqual(merged_pieces(([], [], [], [])), [])
        self.assertEqual(pieces(([K] * 3, [], [], [])), [[0], [1], [2]])

    def test_piece_numbering(self):
        for web in some_webs(81, 60):
            found = piece_numbering(web)
            row = [part for piece in plain_pieces(web) for part in piece]
            self.assertEqual([found[part] for part in row], list(range(len(web[0]))))
            together = put_together([piece_web(web, parts) for parts in pieces(web)])
            self.assertEqual(renumbered(web, found), together)


class WebOfParts(unittest.TestCase):
    def test_any_parts(self):
        rng = random.Random(82)
        seen = set()
        for web in some_webs(83, 60) + [some_web(rng, 8, 9) for _ in range(60)]:
            many = len(web[0])
            beside = near(web)
            for size in (0, many // 2, max(many - 1, 0), many):
                parts = sorted(rng.sample(range(many), size))
                other = piece_web(web, parts)
                self.assertIs(is_web(other), True)
                self.assertEqual(other[0], [web[0][part] for part in parts])
                self.assertEqual([(parts[a], parts[b], order) for a, b, order in other[1]],
                                 [tie for tie in web[1] if tie[0] in parts and tie[1] in parts])
                stay = [hand for hand in web[2] if set(beside[hand[0]] + [hand[0]]) <= set(parts)]
                self.assertEqual([(parts[a], sign) for a, sign in other[2]], stay)
                flat = [side for side in web[3] if set(beside[side[0]] + beside[side[1]]) <= set(parts)]
                self.assertEqual([(parts[a], parts[b], sign) for a, b, sign in other[3]], flat)
                seen.add(("hand", len(stay) > 0, len(stay) < len(web[2])))
                seen.add(("side", len(flat) > 0, len(flat) < len(web[3])))
        self.assertEqual(len(seen), 8)

    def test_which_go(self):
        star = ([K] * 5, [(0, 1, 1), (0, 2, 1), (0, 3, 1), (0, 4, 1)], [(0, -1)], [])
        self.assertEqual(piece_web(star, [0, 1, 2, 3]), ([K] * 4, [(0, 1, 1), (0, 2, 1), (0, 3, 1)], [], []))
        row = ([K] * 6, [(0, 2, 1), (1, 2, 1), (2, 3, 2), (3, 4, 1), (3, 5, 1)], [], [(2, 3, -1)])
        self.assertEqual(bearing_ties(row), [(2, 3)])
        self.assertEqual(piece_web(row, [0, 1, 2, 3, 4])[3], [])
        self.assertEqual(piece_web(row, [0, 2, 3, 4, 5])[3], [])
        self.assertEqual(piece_web(row, [0, 1, 2, 3, 4, 5])[3], [(2, 3, -1)])
        self.assertEqual(piece_web(row, []), ([], [], [], []))


class Together(unittest.TestCase):
    def test_put_together(self):
        rng = random.Random(84)
        for _ in range(60):
            webs = [some_web(rng, rng.randrange(7), 8) for _ in range(rng.randrange(5))]
            if sum(len(web[0]) for web in webs) > 24:
                webs = webs[:3]
            found = put_together(webs)
            self.assertIs(is_web(found), True)
            expected = ([], [], [], [])
            ahead = 0
            for web in webs:
                expected[0].extend(web[0])
                expected[1].extend([(a + ahead, b + ahead, order) for a, b, order in web[1]])
                expected[2].extend([(a + ahead, sign) for a, sign in web[2]])
                expected[3].extend([(a + ahead, b + ahead, sign) for a, b, sign in web[3]])
                ahead += len(web[0])
            self.assertEqual(found, expected)
        self.assertEqual(put_together([]), ([], [], [], []))
        self.assertEqual(put_together([([], [], [], [])] * 3), ([], [], [], []))

    def test_bounds(self):
        full = ([K] * 5, [(a, b, 1) for a in range(5) for b in range(a + 1, 5)], [], [])
        six = ([K] * 4, [(a, b, 1) for a in range(4) for b in range(a + 1, 4)], [], [])
        two = ([K] * 2, [(0, 1, 1)], [], [])
        one = ([K], [], [], [])
        self.assertEqual(len(put_together([one] * 24)[0]), 24)
        self.assertEqual(len(put_together([full] * 4 + [six])[1]), 46)
        for webs, what, limit in (([one] * 25, "parts", 24), ([full] * 5, "parts", 24), ([six] * 7, "parts", 24)):
            with self.assertRaises(TooMany) as caught:
                put_together(webs)
            self.assertEqual((caught.exception.what, caught.exception.limit), (what, limit))
        dense = ([K] * 8, [(a, b, 1) for a in range(8) for b in range(a + 1, 8) if (a, b) not in ((0, 1), (2, 3),
                 (4, 5), (6, 7), (0, 2), (1, 3), (4, 6), (5, 7))][:20], [], [])
        self.assertIs(is_web(dense), True)
        self.assertEqual(len(put_together([dense, dense, two, six, one])[1]), 47)
        nine = ([K] * 6, [(0, 1, 1), (0, 2, 1), (1, 2, 1), (2, 3, 1), (3, 4, 1), (3, 5, 1), (4, 5, 1), (0, 5, 1)], [], [])
        self.assertEqual(len(put_together([dense, dense, nine])[1]), 48)
        more = (nine[0], sorted(nine[1] + [(1, 4, 1)]), [], [])
        with self.assertRaises(TooMany) as caught:
            put_together([dense, dense, more])
        self.assertEqual((caught.exception.what, caught.exception.limit), ("ties", 48))
        # Parts ahead of ties.
        with self.assertRaises(TooMany) as caught:
            put_together([dense, dense, more, two, one])
        self.assertEqual((caught.exception.what, caught.exception.limit), ("parts", 24))


if __name__ == "__main__":
    unittest.main()
