"""webnames.members: members by place, by what they keep, and by where they lead a row [21] to [27]."""

import random
import unittest

from tests.helper import ANY_VALUES, NOT_COUNTS, all_of, group_of, plain_is_numbering, same_kinds, some_groups
from tests.helper import some_numbering
from webnames.chains import group_order
from webnames.closing import plain_group
from webnames.errors import InvalidMany, MissingMember, TooMany
from webnames.members import all_members, keeping, keeping_order, leads_to, least_row, member_at, place_of
from webnames.numberings import then

ALL_24 = [list(range(1, 24)) + [0], [1, 0] + list(range(2, 24))]
FACTORIAL_24 = 620448401733239439360000
SEVEN = [[1, 2, 3, 4, 5, 6, 0], [1, 0, 2, 3, 4, 5, 6]]
EIGHT = [[1, 2, 3, 4, 5, 6, 7, 0], [1, 0, 2, 3, 4, 5, 6, 7]]


class Members(unittest.TestCase):
    def test_all_members(self):
        for many, numberings in some_groups(70):
            self.assertEqual(all_members(many, numberings), plain_group(many, numberings))
        self.assertEqual(all_members(7, SEVEN), all_of(7))
        for many, numberings in ((8, EIGHT), (24, ALL_24)):
            with self.assertRaises(TooMany) as caught:
                all_members(many, numberings)
            self.assertEqual((caught.exception.what, caught.exception.limit), ("group", 5040))

    def test_by_place_and_back(self):
        rng = random.Random(71)
        for many, numberings in some_groups(72):
            members = plain_group(many, numberings)
            places = range(len(members)) if len(members) < 50 else rng.sample(range(len(members)), 8)
            for place in [*places, 0, len(members) - 1]:
                self.assertEqual(member_at(many, numberings, place), members[place])
                self.assertEqual(place_of(many, numberings, members[place]), place)
            for p in [some_numbering(rng, many) for _ in range(4)]:
                expected = members.index(p) if p in members else None
                self.assertEqual(place_of(many, numberings, p), expected)

    def test_great_groups(self):
        self.assertEqual(member_at(24, ALL_24, 0), list(range(24)))
        self.assertEqual(member_at(24, ALL_24, 1), [*range(22), 23, 22])
        self.assertEqual(member_at(24, ALL_24, FACTORIAL_24 - 1), list(reversed(range(24))))
        self.assertEqual(place_of(24, ALL_24, list(reversed(range(24)))), FACTORIAL_24 - 1)
        place = FACTORIAL_24 * 3 // 7
        self.assertEqual(place_of(24, ALL_24, member_at(24, ALL_24, place)), place)
        self.assertEqual(member_at(8, EIGHT, 40319), [7, 6, 5, 4, 3, 2, 1, 0])
        self.assertEqual(member_at(24, ALL_24[:1], 23), [23, *range(23)])
        self.assertEqual(place_of(24, ALL_24[:1], [23, *range(23)]), 23)
        self.assertIsNone(place_of(24, ALL_24[:1], ALL_24[1]))

    def test_missing_members(self):
        turn = [[1, 2, 0]]
        for place in ANY_VALUES + [3, -1, 10 ** 29]:
            with self.assertRaises(MissingMember) as caught:
                member_at(3, turn, place)
            value = caught.exception.value
            self.assertTrue(value is place or same_kinds(value, place))
        with self.assertRaises(MissingMember):
            member_at(24, ALL_24, FACTORIAL_24)
        with self.assertRaises(MissingMember):
            member_at(0, [], 1)
        self.assertEqual(member_at(0, [], 0), [])

    def test_many(self):
        for many in NOT_COUNTS + [25]:
            for asked in (lambda: all_members(many, []), lambda: member_at(many, [], None),
                          lambda: place_of(many, [], []), lambda: keeping(many, [], []),
                          lambda: keeping_order(many, [], []), lambda: least_row(many, [], []),
                          lambda: leads_to(many, [], [], [1])):
                with self.assertRaises(InvalidMany):
                    asked()


class Keeping(unittest.TestCase):
    def test_keeping(self):
        rng = random.Random(73)
        for many, numberings in some_groups(74):
            members = group_of(many, numberings)
            for size in {0, min(1, many), min(2, many), min(3, many), many}:
                parts = rng.sample(range(many), size)
                kept = {m for m in members if all(m[part] == part for part in parts)}
                found = keeping(many, numberings, parts)
                self.assertLessEqual(len(found), 300)
                self.assertTrue(all(plain_is_numbering(p, many) for p in found))
                self.assertEqual(group_of(many, found), kept)
                self.assertEqual(keeping_order(many, numberings, parts), len(kept))

    def test_great_groups(self):
        found = keeping(24, ALL_24, [])
        self.assertLessEqual(len(found), 300)
        self.assertEqual(group_order(24, found), FACTORIAL_24)
        found = keeping(24, ALL_24, [23, 0, 7])
        self.assertEqual(group_order(24, found), FACTORIAL_24 // (24 * 23 * 22))
        self.assertEqual(keeping_order(24, ALL_24, [23, 0, 7]), FACTORIAL_24 // (24 * 23 * 22))
        self.assertEqual(keeping_order(24, ALL_24, list(range(24))), 1)
        self.assertEqual(keeping_order(8, EIGHT, [3]), 5040)
        self.assertEqual(keeping_order(24, ALL_24[:1], [3]), 1)


class Rows(unittest.TestCase):
    def rows_of(self, rng, many):
        """Rows of several lengths, in some of them parts twice."""
        if many == 0:
            return [[]]
        rows = [[rng.randrange(many) for _ in range(length)] for length in (0, 1, 2, 3, 24)]
        return rows + [rng.sample(range(many), min(many, 3)), rng.sample(range(many), many)]

    def test_least_row(self):
        rng = random.Random(75)
        for many, numberings in some_groups(76):
            members = group_of(many, numberings)
            for row in self.rows_of(rng, many):
                self.assertEqual(least_row(many, numberings, row), list(min(tuple(m[x] for x in row) for m in members)))

    def test_leads_to(self):
        rng = random.Random(77)
        for many, numberings in some_groups(78):
            members = group_of(many, numberings)
            for row in self.rows_of(rng, many):
                images = {tuple(m[x] for x in row) for m in members}
                others = [list(image) for image in sorted(images)[::37]]
                others += [some_numbering(rng, many)[:len(row)], row[::-1], row + row[:1], row[1:]]
                for other in others:
                    found = leads_to(many, numberings, row, other)
                    self.assertEqual(found is not None, tuple(other) in images and len(row) == len(other))
                    if found is not None:
                        self.assertIn(tuple(found), members)
                        self.assertEqual([found[x] for x in row], other)

    def test_great_groups(self):
        self.assertEqual(least_row(24, ALL_24, [9, 4, 9, 9, 20]), [0, 1, 0, 0, 2])
        found = leads_to(24, ALL_24, [9, 4, 9, 9, 20], [3, 4, 3, 3, 0])
        self.assertEqual([found[x] for x in [9, 4, 9, 9, 20]], [3, 4, 3, 3, 0])
        self.assertIsNone(leads_to(24, ALL_24, [9, 4, 9], [3, 4, 5]))
        self.assertIsNone(leads_to(24, ALL_24, [9, 4], [3, 3]))
        even = [[1, 2, 0] + list(range(3, 24)), [0] + list(range(2, 24)) + [1]]
        row = list(range(24))
        self.assertIsNone(leads_to(24, even, row, [1, 0] + row[2:]))
        self.assertEqual(least_row(24, even, [1, 0] + row[2:]), row[:22] + [23, 22])
        self.assertEqual(leads_to(24, even, row, then(even[1], even[0])), then(even[1], even[0]))
        self.assertEqual(leads_to(3, [], [], []), [0, 1, 2])


if __name__ == "__main__":
    unittest.main()
