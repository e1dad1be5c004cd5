"""webnames.loose: loose symmetries and their moves [105], and what they tell [106]."""

import random
import unittest

from tests import plain
from tests.helper import ANY_VALUES, changed_once, same_kinds, some_numbering, some_webs
from tests.test_handed import plain_seats
from webnames.errors import TooMany
from webnames.handed import counts_hand, counts_side, is_own_mirror, own_setting, put_setting
from webnames.loose import (
    counts_by_moves, is_loose, is_own_mirror_by_moves, led_setting, loose_symmetries, move_of, moves,
)
from webnames.numberings import renumbered
from webnames.pairings import all_numberings, by_colours


def small(seed, most=6, many=40):
    return [web for web in plain.SHAPES + some_webs(seed, many, most) if len(web[0]) <= most]


def plain_is_loose(web, numbering):
    far = renumbered(web, numbering)
    return (far[0], far[1], plain_seats(far)) == (web[0], web[1], plain_seats(web))


def plain_move(web, numbering):
    seats = plain_seats(web)
    signs = own_setting(web)
    far = own_setting(renumbered(web, numbering))
    places = []
    for seat in seats:
        there = tuple(sorted(numbering[x] for x in seat[1:]))
        places.append(seats.index((seat[0], *there)))
    return (places, [far[place] // sign for place, sign in zip(places, signs)])


class Loose(unittest.TestCase):
    def test_loose_symmetries(self):
        more = 0
        for web in small(320):
            known = [p for p in all_numberings(len(web[0])) if plain_is_loose(web, p)]
            self.assertEqual(loose_symmetries(web), known)
            for numbering in random.Random(len(known)).sample(all_numberings(len(web[0])), min(30, len(known))):
                self.assertIs(is_loose(web, numbering), numbering in known)
            own = by_colours(web, web)
            self.assertTrue(all(p in known for p in own))
            more += len(known) > len(own)
            found = [plain_move(web, p) for p in known]
            for numbering, move in zip(known, found):
                self.assertTrue(same_kinds(move_of(web, numbering), move))
            unlike = [move for k, move in enumerate(found) if move not in found[:k]]
            self.assertTrue(same_kinds(moves(web), sorted(unlike)))
        self.assertGreater(more, 5)

    def test_is_loose(self):
        web = plain.star(3, 1)
        for value in ANY_VALUES:
            self.assertIs(is_loose(web, value), False)
            self.assertIs(is_loose(web, [value]), False)
            self.assertIs(is_loose(plain.alone(0), value), type(value) is list and value == [])
        for value in changed_once([0, 2, 1, 3]):
            right = type(value) is list and all(type(x) is int for x in value) and sorted(value) == [0, 1, 2, 3]
            self.assertIs(is_loose(web, value), right and value[0] == 0)
        self.assertIs(is_loose(web, [0, 2, 1, 3]), True)
        self.assertIs(is_loose(web, (0, 2, 1, 3)), False)
        self.assertIs(is_loose(web, [1, 0, 2, 3]), False)
        # Hands at other parts, sides at other ties.
        two = plain.beside(plain.star(3, 1), plain.star(3))
        self.assertIs(is_loose(two, [4, 5, 6, 7, 0, 1, 2, 3]), False)
        two = plain.beside(plain.double(), (plain.double()[0], plain.double()[1], [], []))
        self.assertIs(is_loose(two, [6, 7, 8, 9, 10, 11, 0, 1, 2, 3, 4, 5]), False)
        two = plain.beside(plain.double(), plain.double(-1))
        self.assertIs(is_loose(two, [6, 7, 8, 9, 10, 11, 0, 1, 2, 3, 4, 5]), True)
        marks = ([("k", 1), ("k", -1)], [], [], [])
        self.assertIs(is_loose(marks, [1, 0]), False)
        self.assertEqual(loose_symmetries(marks), [[0, 1]])

    def test_marks_and_hands_are_told_apart(self):
        # A mark that is one more is not a hand.
        parts = [("k", 0), ("a", 0), ("a", 0), ("a", 0), ("k", 1), ("a", 0), ("a", 0), ("a", 0)]
        ties = [(0, 1, 1), (0, 2, 1), (0, 3, 1), (4, 5, 1), (4, 6, 1), (4, 7, 1)]
        for hands in ([], [(0, 1)], [(4, 1)], [(0, 1), (4, -1)]):
            web = (parts, ties, hands, [])
            self.assertEqual(len(loose_symmetries(web)), 36)
            self.assertTrue(all(p[0] == 0 for p in loose_symmetries(web)))

    def test_led_settings(self):
        rng = random.Random(321)
        for web in small(322):
            for numbering in loose_symmetries(web)[:20]:
                setting = [rng.choice([1, -1]) for _ in plain_seats(web)]
                there = led_setting(move_of(web, numbering), setting)
                # The FACT of [106].
                self.assertEqual(renumbered(put_setting(web, setting), numbering), put_setting(web, there))
                self.assertEqual(move_of(put_setting(web, setting), numbering), move_of(web, numbering))
        self.assertEqual(led_setting(([1, 2, 0], [1, -1, -1]), [1, 1, -1]), [1, 1, -1])
        self.assertEqual(led_setting(([], []), []), [])

    def test_greater_webs(self):
        rng = random.Random(323)
        for web, number in ((plain.ring(24), 48), (plain.beside(*[plain.star(3, 1)] * 3), 6 ** 3 * 6),
                            (plain.beside(plain.star(3, 1), plain.star(3, -1), plain.star(3)), 72 * 6),
                            (plain.beside(plain.double(), plain.double(-1)), 128), (plain.FRUCHT, 1)):
            far = renumbered(web, some_numbering(rng, len(web[0])))
            found = loose_symmetries(far)
            self.assertEqual(len(found), number)
            self.assertTrue(all(is_loose(far, p) for p in found))


class ByMoves(unittest.TestCase):
    def test_by_moves(self):
        seen = set()
        for web in small(324) + [plain.twins((1, 1)), plain.twins((1, -1)), plain.beside(plain.double(), plain.double(-1))]:
            for seat in plain_seats(web):
                expected = counts_hand(web, seat[1]) if seat[0] == "hand" else counts_side(web, *seat[1:])
                self.assertIs(counts_by_moves(web, seat), expected)
                seen.add((seat[0], expected))
            self.assertIs(is_own_mirror_by_moves(web), is_own_mirror(web))
            seen.add(is_own_mirror(web))
        self.assertEqual(len(seen), 6)

    def test_5040_and_more(self):
        hand = plain.star(3, 1, ("h", 0))
        # 6 loose symmetries of the star times 840, and times 5,040.
        web = plain.beside(plain.alone(7), ([("a", 0)], [], [], []))
        self.assertEqual(len(loose_symmetries(web)), 5040)
        self.assertEqual(moves(web), [([], [])])
        self.assertIs(is_own_mirror_by_moves(web), True)
        web = plain.beside(plain.alone(5), hand, plain.row(3, ("b", 0)))
        self.assertEqual((len(loose_symmetries(web)), len(moves(web))), (120 * 6 * 2, 2))
        web = plain.beside(plain.alone(7), hand)
        for call in (lambda: loose_symmetries(web), lambda: moves(web), lambda: counts_by_moves(web, ("hand", 7)),
                     lambda: is_own_mirror_by_moves(web), lambda: moves(plain.alone(24)), lambda: loose_symmetries(plain.alone(8))):
            with self.assertRaises(TooMany) as caught:
                call()
            self.assertEqual((caught.exception.what, caught.exception.limit), ("symmetries", 5040))
        # All loose symmetries count, not only those that keep the signs.
        web = plain.beside(plain.star(4, 1), plain.star(4, -1), plain.star(3, 1, ("b", 0)))
        self.assertEqual(len(by_colours(web, web)), 12 * 12 * 2 * 3)
        self.assertRaises(TooMany, loose_symmetries, web)


if __name__ == "__main__":
    unittest.main()
