"""webnames.closing: groups the plain way, words [23], and what is a group."""

import random
import unittest
from itertools import product

from tests.helper import ANY_VALUES, NOT_COUNTS, all_of, changed_once, group_of, some_groups, some_numbering
from webnames.closing import is_group, plain_group, word
from webnames.errors import InvalidMany, TooMany
from webnames.numberings import back, then
from webnames.perms import compose

SEVEN = [[1, 2, 3, 4, 5, 6, 0], [1, 0, 2, 3, 4, 5, 6]]
EIGHT = [[1, 2, 3, 4, 5, 6, 7, 0], [1, 0, 2, 3, 4, 5, 6, 7]]


class PlainGroup(unittest.TestCase):
    def test_members(self):
        for many, numberings in some_groups(40):
            members = plain_group(many, numberings)
            self.assertEqual(members, [list(row) for row in sorted(group_of(many, numberings))])
            for member in members[:20]:
                self.assertIn(back(member), members)

    def test_bound(self):
        self.assertEqual(plain_group(7, SEVEN), all_of(7))
        # As many numberings as are allowed, all of them members.
        rng = random.Random(41)
        self.assertEqual(len(plain_group(7, [some_numbering(rng, 7) for _ in range(300)])), 5040)
        even = [[1, 2, 0, 3, 4, 5, 6, 7], [0, 2, 3, 4, 5, 6, 7, 1]]
        for many, numberings in ((8, EIGHT), (8, even), (24, [some_numbering(rng, 24) for _ in range(300)])):
            for asked in (lambda: plain_group(many, numberings), lambda: word(many, numberings, list(range(many))),
                          lambda: word(many, numberings, numberings[0])):
                with self.assertRaises(TooMany) as caught:
                    asked()
                self.assertEqual((caught.exception.what, caught.exception.limit), ("group", 5040))

    def test_many(self):
        for many in NOT_COUNTS + [25]:
            for asked in (lambda: plain_group(many, []), lambda: word(many, [], []), lambda: is_group(many, [[]])):
                with self.assertRaises(InvalidMany):
                    asked()


class Words(unittest.TestCase):
    def test_least_of_the_shortest(self):
        rng = random.Random(42)
        for many, numberings in [(3, [[1, 2, 0], [1, 0, 2]]), (3, [[0, 1, 2], [1, 2, 0], [1, 2, 0]]), (4, [[1, 0, 3, 2]]),
                                 (4, [some_numbering(rng, 4) for _ in range(3)]), (2, []), (0, [[]])]:
            least = {}
            for length in range(6):
                for places in product(range(len(numberings)), repeat=length):
                    least.setdefault(tuple(compose(many, [numberings[k] for k in places])), list(places))
            for p in all_of(many):
                found = word(many, numberings, p)
                if tuple(p) in least:
                    self.assertEqual(found, least[tuple(p)])
                elif found is not None:
                    self.assertGreater(len(found), 5)
                else:
                    self.assertNotIn(tuple(p), group_of(many, numberings))

    def test_words_make_their_members(self):
        for many, numberings in some_groups(43):
            members = group_of(many, numberings)
            for member in sorted(members)[::97]:
                places = word(many, numberings, list(member))
                self.assertEqual(compose(many, [numberings[k] for k in places]), list(member))
            for other in (list(reversed(range(many))), list(range(1, many)) + [0] if many else []):
                self.assertEqual(word(many, numberings, other) is None, tuple(other) not in members)

    def test_long_word(self):
        turn = list(range(1, 24)) + [0]
        self.assertEqual(word(24, [turn], back(turn)), [0] * 23)
        self.assertEqual(word(24, [turn, back(turn)], then(back(turn), back(turn))), [1, 1])


class Groups(unittest.TestCase):
    def plain_is_group(self, many, value):
        if type(value) is not list or any(type(row) is not list for row in value):
            return False
        if any(type(x) is not int for row in value for x in row):
            return False
        if any(sorted(row) != list(range(many)) for row in value) or not value:
            return False
        members = {tuple(row) for row in value}
        closed = all(tuple(then(p, q)) in members for p in value for q in value)
        return closed and value == [list(row) for row in sorted(members)]

    def test_groups(self):
        for many, numberings in some_groups(44):
            self.assertIs(is_group(many, [list(row) for row in sorted(group_of(many, numberings))]), True)
        self.assertIs(is_group(7, all_of(7)), True)
        self.assertIs(is_group(0, [[]]), True)

    def test_a_group_greater_than_the_bound(self):
        # Of 5,760 members: there is no bound here.
        six, eight = all_of(6)[:720], group_of(14, [
            [0, 1, 2, 3, 4, 5, 7, 8, 9, 6, 10, 11, 12, 13], [0, 1, 2, 3, 4, 5, 6, 9, 8, 7, 10, 11, 12, 13]])
        rows = sorted([row + list(other[6:]) for row in six for other in eight])
        self.assertEqual(len(rows), 5760)
        self.assertIs(is_group(14, rows), True)
        self.assertIs(is_group(14, rows[:-1]), False)

    def test_what_is_none(self):
        for value in ANY_VALUES:
            for many in (0, 1, 3, 24):
                self.assertIs(is_group(many, value), self.plain_is_group(many, value))
        self.assertIs(is_group(2, [[0, 1], [1, 0]]), True)
        for value in ([], [[1, 0]], [[1, 0], [0, 1]], [[0, 1], [0, 1]], [[0, 1], [1, 0], [1, 0]], ([0, 1], [1, 0]),
                      [(0, 1), (1, 0)], [[False, True], [1, 0]], [[0, 1], [True, 0]], [[0, 1, 2]], [[0]]):
            self.assertIs(is_group(2, value), False)
        self.assertIs(is_group(3, [[0, 1, 2], [1, 2, 0]]), False)
        rows = all_of(7)
        self.assertIs(is_group(7, rows[:2000] + rows[2001:]), False)

    def test_changed_once(self):
        for many, numberings in ((3, [[1, 2, 0]]), (4, [[1, 0, 3, 2]]), (3, [[1, 0, 2], [0, 2, 1]])):
            rows = [list(row) for row in sorted(group_of(many, numberings))]
            for value in changed_once(rows):
                self.assertIs(is_group(many, value), self.plain_is_group(many, value))


if __name__ == "__main__":
    unittest.main()
