"""webnames.matching: a Sieve deed by deed [123], and all matches by the tree of tables [124] and the plain way."""

import random
import unittest
from itertools import permutations
from unittest import mock

from tests import plain
from tests.helper import same_kinds, some_numbering
from tests.test_patterns import (
    pattern_in, pattern_pairs, plain_candidates, plain_fit, plain_is_match, plain_matches, plain_narrowed, some_pattern,
)
from webnames.errors import NoCandidate, StillFits, TooMany
from webnames.matching import Sieve, matches, matches_plain, table_count
from webnames.numberings import is_pairing, renumbered
from webnames.patterns import pattern_of, renumbered_pattern
from webnames.symmetric import all_symmetries

K = plain.K
ANY = ((), None)


def plain_tree(pattern, web, held=()):
    """All tables of the tree, by the words of [124]."""
    rng = random.Random(0)
    table = plain_candidates(pattern, web)
    for place in range(len(table)):
        told = {x for a, x in held if a == place}
        if told:
            table[place] = [x for x in table[place] if told == {x}]
    waits, found = [plain_narrowed(rng, pattern, web, table)], []
    while waits:
        table = waits.pop()
        found.append(table)
        if all(table) and any(len(row) > 1 for row in table):
            fewest = min(len(row) for row in table if len(row) > 1)
            place = [len(row) for row in table].index(fewest)
            for x in table[place]:
                waits.append(plain_narrowed(rng, pattern, web, [[x] if a == place else row for a, row in enumerate(table)]))
    return found


def rows_of(sieve, many):
    return [sieve.row(a) for a in range(many)]


class Sieves(unittest.TestCase):
    def test_deed_by_deed(self):
        rng = random.Random(450)
        words = {}
        for pattern, web in pattern_pairs(451, 50, 9, 5):
            many = len(pattern[0])
            sieve, table = Sieve(pattern, web), plain_candidates(pattern, web)
            for _ in range(40):
                self.assertTrue(same_kinds(rows_of(sieve, many), table))
                self.assertTrue(same_kinds(sieve.many, sum(len(row) for row in table)))
                self.assertIs(sieve.is_closed, any(not row for row in table))
                self.assertIs(sieve.is_single, all(len(row) == 1 for row in table))
                if many < 2 or not web[0]:
                    break
                a, b = rng.sample(range(many), 2)
                x = rng.randrange(len(web[0]))
                if table[a] and rng.random() < 0.8:
                    x = rng.choice(table[a])
                fitting = [y for y in table[b] if plain_fit(pattern, web, a, x, b, y)]
                self.assertIs(sieve.can_go(a, x, b), x in table[a] and not fitting)
                word = rng.choice(["take", "take", "take", "hold", "narrow", "twin"] if rng.random() < 0.5 else ["take"])
                if word == "take":
                    word = self.take(sieve, table, a, x, b, fitting)
                elif word == "hold":
                    word = self.hold(sieve, table, a, x)
                elif word == "twin":
                    other = sieve.twin()
                    self.assertTrue(same_kinds(rows_of(other, many), table))
                    steps = other.narrow()
                    self.check_steps(pattern, web, table, steps, rows_of(other, many))
                    self.assertTrue(same_kinds(rows_of(sieve, many), table))
                else:
                    before = [list(row) for row in table]
                    table = plain_narrowed(rng, pattern, web, table)
                    self.check_steps(pattern, web, before, sieve.narrow(), table)
                    self.assertEqual(sieve.narrow(), [])
                words[word] = words.get(word, 0) + 1
        self.assertEqual(set(words), {"take", "no candidate", "still fits", "hold", "hold none", "narrow", "twin"})
        self.assertGreater(min(words.values()), 10, words)

    def take(self, sieve, table, a, x, b, fitting):
        if x not in table[a]:
            with self.assertRaises(NoCandidate) as caught:
                sieve.take(a, x, b)
            self.assertEqual((caught.exception.place, caught.exception.part), (a, x))
            return "no candidate"
        if fitting:
            with self.assertRaises(StillFits) as caught:
                sieve.take(a, x, b)
            self.assertEqual(caught.exception.part, min(fitting))
            return "still fits"
        self.assertIsNone(sieve.take(a, x, b))
        table[a].remove(x)
        return "take"

    def hold(self, sieve, table, a, x):
        if x not in table[a]:
            with self.assertRaises(NoCandidate) as caught:
                sieve.hold(a, x)
            self.assertEqual((caught.exception.place, caught.exception.part), (a, x))
            return "hold none"
        self.assertIsNone(sieve.hold(a, x))
        table[a] = [x]
        return "hold"

    def check_steps(self, pattern, web, before, steps, behind):
        """Whether each step can go, in sequence, and all are the whole way."""
        table = [list(row) for row in before]
        self.assertIs(type(steps), list)
        for step in steps:
            self.assertIs(type(step), tuple)
            a, x, b = step
            self.assertFalse(any(plain_fit(pattern, web, a, x, b, y) for y in table[b]) or a == b)
            table[a].remove(x)
        self.assertEqual(table, behind)

    def test_what_goes_first_makes_no_difference(self):
        rng = random.Random(452)
        for pattern, web in pattern_pairs(453, 30, 8, 5):
            many = len(pattern[0])
            sieve, other = Sieve(pattern, web), Sieve(pattern, web)
            other.narrow()
            kept = plain_matches(pattern, web)[:20] if many <= 4 else []
            going = True
            while going:
                going = [(a, x, b) for a in range(many) for b in range(many) if a != b for x in sieve.row(a) if sieve.can_go(a, x, b)]
                if going:
                    sieve.take(*rng.choice(going))
                self.assertTrue(all(x in sieve.row(a) for match in kept for a, x in enumerate(match)))
            self.assertEqual(rows_of(sieve, many), rows_of(other, many))
            self.assertEqual(sieve.narrow(), [])

    def test_what_is_passed_and_returned_is_copied(self):
        pattern, web = pattern_of(plain.row(3)), plain.row(4)
        pattern, web = tuple(list(rows) for rows in pattern), tuple(list(rows) for rows in web)
        sieve = Sieve(pattern, web)
        for rows in pattern + web:
            rows.clear()
        sieve.row(0).clear()
        self.assertEqual(rows_of(sieve, 3), [[0, 1, 2, 3], [1, 2], [0, 1, 2, 3]])
        self.assertEqual(rows_of(sieve.twin(), 3), [[0, 1, 2, 3], [1, 2], [0, 1, 2, 3]])
        twin = sieve.twin()
        twin.hold(1, 1)
        twin.narrow()
        self.assertEqual(rows_of(twin, 3), [[0, 2], [1], [0, 2]])
        sieve.hold(1, 2)
        sieve.narrow()
        self.assertEqual(rows_of(sieve, 3), [[1, 3], [2], [1, 3]])
        self.assertEqual(rows_of(twin, 3), [[0, 2], [1], [0, 2]])

    def test_no_places(self):
        sieve = Sieve(pattern_of(plain.alone(0)), plain.row(2))
        self.assertEqual((sieve.many, sieve.is_closed, sieve.is_single, sieve.narrow()), (0, False, True, []))


class Matches(unittest.TestCase):
    def test_both_ways(self):
        rng = random.Random(454)
        counts = set()
        for pattern, web in pattern_pairs(455, 70, 8, 4):
            expected = plain_matches(pattern, web)
            self.assertTrue(same_kinds(matches(pattern, web), expected))
            self.assertTrue(same_kinds(matches_plain(pattern, web), expected))
            tables = plain_tree(pattern, web)
            self.assertEqual(table_count(pattern, web), len(tables))
            # Each match is at just one table.
            for match in expected[:20]:
                self.assertEqual(tables.count([[x] for x in match]), 1)
            counts.add(min(len(expected), 3))
            if pattern[0] and web[0]:
                self.check_held(rng, pattern, web, expected)
        self.assertEqual(counts, {0, 1, 2, 3})

    def check_held(self, rng, pattern, web, expected):
        for _ in range(4):
            held = [(rng.randrange(len(pattern[0])), rng.randrange(len(web[0]))) for _ in range(rng.randrange(4))]
            if expected and rng.random() < 0.6:
                match = rng.choice(expected)
                held = [(a, match[a]) for a, x in held]
            told = [match for match in expected if all(match[a] == x for a, x in held)]
            for given in (held, tuple(held)):
                self.assertTrue(same_kinds(matches(pattern, web, held=given), told))
                self.assertEqual(table_count(pattern, web, held=given), len(plain_tree(pattern, web, held)))

    def test_held_places(self):
        pattern, web = pattern_of(plain.row(2)), plain.row(3)
        self.assertEqual(matches(pattern, web), [[0, 1], [1, 0], [1, 2], [2, 1]])
        self.assertEqual(matches(pattern, web, held=[]), matches(pattern, web))
        self.assertEqual(matches(pattern, web, held=((0, 1),)), [[1, 0], [1, 2]])
        self.assertEqual(matches(pattern, web, held=((0, 1), (0, 1))), [[1, 0], [1, 2]])
        self.assertEqual(matches(pattern, web, held=((0, 1), (0, 2))), [])
        self.assertEqual(table_count(pattern, web, held=((0, 1), (0, 2))), 1)
        self.assertEqual(matches(pattern, web, held=((0, 1), (1, 2))), [[1, 2]])
        self.assertEqual(matches(pattern, web, held=((0, 0), (1, 2))), [])
        self.assertEqual(matches(pattern, web, held=((0, 0), (1, 0))), [])
        marked = ([((), 5)], [], [], [])
        self.assertEqual((matches(marked, web, held=((0, 0),)), table_count(marked, web, held=((0, 0),))), ([], 1))
        with self.assertRaises(TypeError):
            matches(pattern, web, ((0, 1),))
        with self.assertRaises(TypeError):
            table_count(pattern, web, ((0, 1),))

    def test_renumbered(self):
        rng = random.Random(456)
        for pattern, web in pattern_pairs(457, 40, 14, 5):
            p, q = some_numbering(rng, len(web[0])), some_numbering(rng, len(pattern[0]))
            try:
                found = matches(pattern, web)
            except TooMany:
                continue
            self.assertEqual(matches(pattern, renumbered(web, p)), sorted([p[x] for x in match] for match in found))
            turned = sorted([match[q.index(a)] for a in range(len(q))] for match in found)
            self.assertEqual(matches(renumbered_pattern(pattern, q), web), turned)
            self.assertTrue(all(plain_is_match(pattern, web, match) for match in found))

    def test_patterns_of_webs(self):
        # With as many parts, ties, hands and sides the matches are the pairings.
        webs = [web for web in plain.SHAPES if len(web[0]) <= 8]
        webs += [plain.cube([1] * 8), plain.ring(8), plain.beside(plain.ring(4), plain.ring(4))]
        for web in webs:
            found = matches(pattern_of(web), web)
            self.assertEqual(found, all_symmetries(web))
        first, second = plain.star(3, 1), plain.star(3, -1)
        self.assertEqual(matches(pattern_of(first), second), plain.pairings(first, second))
        self.assertTrue(all(is_pairing(first, second, match) for match in matches(pattern_of(first), second)))

    def test_24_parts(self):
        rng = random.Random(458)
        for web in (plain.ring(24), plain.ladder(12), plain.beside(*[plain.ring(4)] * 6), plain.beside(*[plain.star(3, 1)] * 6)):
            for _ in range(6):
                pattern = pattern_in(rng, web, 4)
                try:
                    found = matches(pattern, web)
                except TooMany:
                    continue
                self.assertTrue(all(plain_is_match(pattern, web, match) for match in found))
                tried = [list(row) for row in permutations(range(24), 2)]
                for a, x in [(rng.randrange(len(pattern[0])), rng.randrange(24)) for _ in tried[:10]]:
                    held = matches(pattern, web, held=((a, x),))
                    self.assertEqual(held, [match for match in found if match[a] == x])
        self.assertEqual(len(matches(pattern_of(plain.row(3)), plain.ring(24))), 48)
        self.assertEqual(len(matches(pattern_of(plain.ring(8)), plain.ladder(12))), 16 * 9)

    def test_hands_and_sides_are_no_tables(self):
        # What hands and sides refuse was a table with one part in each row.
        pattern, web = pattern_of(plain.star(3, 1)), plain.star(3, -1)
        self.assertEqual(table_count(pattern, web), len(plain_tree(pattern, web)))
        self.assertEqual(table_count(pattern, web), 1 + 3 + 6)
        self.assertEqual(len(matches(pattern, web)), 3)


class Bounds(unittest.TestCase):
    def count(self, pattern, web, **held):
        try:
            return table_count(pattern, web, **held)
        except TooMany as error:
            self.assertEqual((error.what, error.limit), ("tables", 3000))
            with self.assertRaises(TooMany) as caught:
                matches(pattern, web, **held)
            self.assertEqual((caught.exception.what, caught.exception.limit), ("tables", 3000))
            return None

    def test_3000_tables_and_more(self):
        free = ([ANY] * 3, [], [], [])
        # 1 + 15 + 15 * 14 + 15 * 14 * 13 tables; of 16 parts 3,617.
        self.assertEqual(self.count(free, plain.alone(15)), 2956)
        self.assertIsNone(self.count(free, plain.alone(16)))
        self.assertEqual(self.count(free, plain.alone(16), held=((0, 3),)), 1 + 15 + 15 * 14)
        self.assertEqual(len(matches(free, plain.alone(15))), 15 * 14 * 13)
        counts = {}
        for many in range(2, 25):
            for places in (2, 3, 4):
                number = 1
                lists = 1
                for k in range(places):
                    lists *= many - k
                    # With one part left in each other row nothing is branched.
                    number += lists if many - k > 1 else 0
                counts[number] = ([ANY] * places, [], [], []), plain.alone(many)
        for number, (pattern, web) in sorted(counts.items()):
            if 100 < number < 9000:
                self.assertEqual(self.count(pattern, web), number if number <= 3000 else None)

    def test_near_3000(self):
        # For each kind so many parts, and so many places.
        for groups, number in ((((7, 1), (9, 1), (7, 2)), 2997), (((3, 1), (10, 2), (10, 1)), 3004), (((3, 1), (4, 3), (4, 3)), 3004)):
            parts = [(kind, 0) for kind, (many, _) in zip("abc", groups) for _ in range(many)]
            rows = [((kind,), 0) for kind, (_, places) in zip("abc", groups) for _ in range(places)]
            pattern, web = (rows, [], [], []), (parts, [], [], [])
            self.assertEqual(self.count(pattern, web), number if number <= 3000 else None)
        # With another limit: as many tables are not too many, one more are.
        for pattern, web in pattern_pairs(460, 20, 8, 4):
            number = table_count(pattern, web)
            with mock.patch("webnames.matching.MOST_TABLES", number):
                self.assertEqual(table_count(pattern, web), number)
            with mock.patch("webnames.matching.MOST_TABLES", number - 1), self.assertRaises(TooMany) as caught:
                table_count(pattern, web)
            self.assertEqual(caught.exception.what, "tables")

    def test_5040_lists_and_more(self):
        pattern = ([ANY] * 4, [], [], [])
        self.assertEqual(len(matches_plain(pattern, plain.alone(10))), 5040)
        self.assertEqual(len(matches_plain(([ANY] * 6, [], [], []), plain.alone(7))), 5040)
        for places, parts in ((4, 11), (7, 8), (6, 8), (3, 24), (8, 24)):
            with self.assertRaises(TooMany) as caught:
                matches_plain(([ANY] * places, [], [], []), plain.alone(parts))
            self.assertEqual((caught.exception.what, caught.exception.limit), ("lists", 5040))
        self.assertEqual(matches_plain(([ANY] * 8, [], [], []), plain.alone(7)), [])
        self.assertEqual(matches_plain(([], [], [], []), plain.alone(24)), [[]])
        self.assertEqual(matches(([], [], [], []), plain.alone(0)), [[]])
        self.assertEqual(matches(([ANY], [], [], []), plain.alone(0)), [])
        rng = random.Random(459)
        for _ in range(3):
            pattern = some_pattern(rng, 7, 6)
            web = plain.row(7)
            self.assertEqual(matches_plain(pattern, web), matches(pattern, web))


if __name__ == "__main__":
    unittest.main()
