"""webnames.settings: classes of settings [106], their numbers [107], mirror classes [108]."""

import random
import unittest

from tests import plain
from tests.helper import same_kinds, some_numbering, some_webs
from tests.test_handed import plain_seats
from webnames.errors import TooMany
from webnames.handed import contrary, is_own_mirror, put_setting
from webnames.mirrors import mirror
from webnames.names import form
from webnames.numberings import renumbered
from webnames.pairings import first_pairing
from webnames.settings import (
    all_settings, least_settings, mirror_counts, mirror_pairs, own_mirror_settings, setting_class, setting_count,
    settings,
)


def unlike_star(sign, far=0):
    return ([("c", 0), ("k", 1 + far), ("k", 2 + far), ("k", 3 + far)], plain.star(3)[1], [(0, sign)], [])


def few_seats(seed):
    """Webs with at most four seats and few loose symmetries."""
    found = [web for web in plain.SHAPES + some_webs(seed, 60, 8) if len(plain_seats(web)) <= 4 and len(web[0]) <= 8]
    found += [plain.beside(unlike_star(1), unlike_star(-1)), plain.beside(unlike_star(1), unlike_star(1), unlike_star(1)),
              plain.beside(plain.double(1, (plain.K, ("b", 0), plain.K, ("b", 0))), unlike_star(1)),
              plain.beside(plain.double(), plain.double(-1))]
    return found


def plain_classes(web):
    """The classes, by the webs put."""
    found = []
    for setting in plain.all_signs(len(plain_seats(web))):
        for row in found:
            if first_pairing(put_setting(web, row[0]), put_setting(web, setting)) is not None:
                row.append(setting)
                break
        else:
            found.append([setting])
    return found


class Classes(unittest.TestCase):
    def test_classes(self):
        sizes, told = set(), set()
        for web in few_seats(330):
            known = plain_classes(web)
            self.assertEqual(all_settings(web), plain.all_signs(len(plain_seats(web))))
            self.assertEqual(least_settings(web), [row[0] for row in known])
            self.assertEqual(setting_count(web), len(known))
            for row in known:
                sizes.add(len(row))
                for setting in row[:3]:
                    self.assertTrue(same_kinds(setting_class(web, setting), row))
            own = [row[0] for row in known if contrary(web, row[0]) in row]
            pairs = []
            for row in known:
                there = [far[0] for far in known if contrary(web, row[0]) in far][0]
                if row[0] < there:
                    pairs.append((row[0], there))
            self.assertTrue(same_kinds(own_mirror_settings(web), own))
            self.assertTrue(same_kinds(mirror_pairs(web), sorted(pairs)))
            self.assertEqual(mirror_counts(web), (len(own), len(pairs)))
            told.add((bool(own), bool(pairs)))
            for setting in own:
                self.assertIs(is_own_mirror(put_setting(web, setting)), True)
            for first, second in pairs:
                self.assertIsNotNone(first_pairing(mirror(put_setting(web, first)), put_setting(web, second)))
        self.assertTrue({1, 2, 3, 4} <= sizes, sizes)
        self.assertEqual(told, {(True, False), (False, True), (True, True)})

    def test_forms(self):
        for web in few_seats(331):
            forms = []
            for setting in plain.all_signs(len(plain_seats(web))):
                told = form(put_setting(web, setting))
                if told not in forms:
                    forms.append(told)
            self.assertTrue(same_kinds(settings(web), sorted(forms)))
            self.assertEqual(len(settings(web)), len(least_settings(web)))

    def test_renumbered(self):
        rng = random.Random(332)
        for web in few_seats(333):
            far = renumbered(web, some_numbering(rng, len(web[0])))
            self.assertEqual(settings(far), settings(web))
            self.assertEqual((setting_count(far), mirror_counts(far)), (setting_count(web), mirror_counts(web)))

    def test_without_seats(self):
        for web in (plain.alone(0), plain.ring(5)):
            self.assertEqual((all_settings(web), settings(web)), ([[]], [form(web)]))
            self.assertEqual((setting_class(web, []), least_settings(web)), ([[]], [[]]))
            self.assertEqual((setting_count(web), mirror_counts(web)), (1, (1, 0)))
            self.assertEqual((mirror_pairs(web), own_mirror_settings(web)), ([], [[]]))

    def test_told_ones(self):
        # A pair of unlike stars, of which each has its mirror; three like ones: so many have the one sign.
        two = plain.beside(unlike_star(1), unlike_star(1, 4))
        self.assertEqual((setting_count(two), mirror_counts(two)), (4, (0, 2)))
        three = plain.beside(*[unlike_star(1)] * 3)
        self.assertEqual((setting_count(three), mirror_counts(three)), (4, (0, 2)))
        self.assertEqual(least_settings(three), [[-1, -1, -1], [-1, -1, 1], [-1, 1, 1], [1, 1, 1]])
        self.assertEqual(setting_class(three, [1, -1, 1]), [[-1, 1, 1], [1, -1, 1], [1, 1, -1]])
        self.assertEqual(mirror_pairs(three), [([-1, -1, -1], [1, 1, 1]), ([-1, -1, 1], [-1, 1, 1])])
        side = plain.double(1, (plain.K, ("b", 0), plain.K, ("b", 0)))
        self.assertEqual((setting_count(side), mirror_counts(side)), (2, (2, 0)))
        self.assertEqual(own_mirror_settings(side), [[-1], [1]])


class Bounds(unittest.TestCase):
    def stars(self, many):
        """So many hands along a chain, each at a part with a neighbour of a mark of its own."""
        parts = [("c", 0)] * (many + 2) + [("k", k) for k in range(many)]
        ties = [(k, k + 1, 1) for k in range(many + 1)] + [(k + 1, many + 2 + k, 1) for k in range(many)]
        return (parts, sorted(ties), [(k + 1, 1) for k in range(many)], [])

    def test_eight_seats_and_nine(self):
        web = self.stars(8)
        self.assertEqual(len(all_settings(web)), 256)
        self.assertEqual(least_settings(web), all_settings(web))
        self.assertEqual(len(settings(web)), 256)
        self.assertEqual(setting_class(web, [1] * 8), [[1] * 8])
        self.assertEqual((len(mirror_pairs(web)), own_mirror_settings(web)), (128, []))
        self.assertEqual((setting_count(web), mirror_counts(web)), (256, (0, 128)))
        web = self.stars(9)
        for call in (lambda: all_settings(web), lambda: settings(web), lambda: setting_class(web, [1] * 9),
                     lambda: least_settings(web), lambda: mirror_pairs(web), lambda: own_mirror_settings(web)):
            with self.assertRaises(TooMany) as caught:
                call()
            self.assertEqual((caught.exception.what, caught.exception.limit), ("seats", 8))
        self.assertEqual((setting_count(web), mirror_counts(web)), (512, (0, 256)))

    def test_which_bound_goes_first(self):
        # More than 5,040 loose symmetries, with few seats and with many.
        both = plain.beside(plain.alone(4), *[([("c", k)] + [plain.K] * 3, plain.star(3)[1], [(0, 1)], []) for k in range(5)])
        many = plain.beside(plain.alone(7), plain.star(3, 1))
        eight = plain.beside(*[plain.star(3, 1)] * 5)
        for web, what in ((many, "symmetries"), (both, "symmetries"), (eight, "symmetries")):
            for call in (setting_count, mirror_counts, least_settings, mirror_pairs, own_mirror_settings):
                with self.assertRaises(TooMany) as caught:
                    call(web)
                self.assertEqual((caught.exception.what, caught.exception.limit), (what, 5040))
            with self.assertRaises(TooMany) as caught:
                setting_class(web, [1] * len(plain_seats(web)))
            self.assertEqual(caught.exception.what, what)
            # These two do not look at loose symmetries.
            self.assertEqual(len(all_settings(web)), 2 ** len(plain_seats(web)))
            self.assertEqual(len(settings(web)), 1)
        cubes = plain.beside(plain.cube([1] * 8), plain.cube([1] * 8), plain.alone(5))
        for call in (all_settings, settings, least_settings, mirror_pairs, own_mirror_settings):
            with self.assertRaises(TooMany) as caught:
                call(cubes)
            self.assertEqual((caught.exception.what, caught.exception.limit), ("seats", 8))
        for call in (setting_count, mirror_counts):
            with self.assertRaises(TooMany) as caught:
                call(cubes)
            self.assertEqual((caught.exception.what, caught.exception.limit), ("symmetries", 5040))
        with self.assertRaises(TooMany) as caught:
            setting_class(cubes, [1] * 16)
        self.assertEqual(caught.exception.what, "seats")

    def test_5040_loose_symmetries(self):
        web = plain.beside(plain.alone(7), unlike_star(1))
        self.assertEqual((setting_count(web), mirror_counts(web), least_settings(web)), (2, (0, 1), [[-1], [1]]))
        self.assertEqual(mirror_pairs(web), [([-1], [1])])


if __name__ == "__main__":
    unittest.main()
