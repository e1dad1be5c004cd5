"""webnames.deeds: deeds [141], what is lost [142], deeds renumbered [143], and rows of deeds between webs."""

import random
import unittest

from tests import plain
from tests.helper import ANY_VALUES, bearing_ties, changed_once, near, same_kinds, sign_of_sequence, some_numbering, some_web, some_webs
from webnames.deeds import (
    back_row, can_do, done, done_all, is_deed, leads, lost, numbering_behind, renumbered_deed, row_between,
)
from webnames.errors import CannotDo
from webnames.numberings import is_numbering, renumbered
from webnames.webs import is_web, made

K = plain.K
WORDS = ("put", "drop", "kind", "mark", "tie", "untie", "order", "hand", "bare", "side", "flat")


def plain_is_deed(value):
    """Whether any value is a deed, by the words of [141]."""
    if type(value) is not tuple or not value or type(value[0]) is not str:
        return False

    def number(x):
        return type(x) is int and 0 <= x <= 99

    def kind(x):
        return type(x) is str and 1 <= len(x) <= 4 and set(x) <= set("abcdefghijklmnopqrstuvwxyz")

    def mark(x):
        return type(x) is int and -9 <= x <= 9

    def order(x):
        return type(x) is int and 1 <= x <= 4

    def sign(x):
        return type(x) is int and x in (1, -1)

    def row(x):
        return type(x) is list and len(x) in (3, 4) and all(number(y) for y in x) and len(set(x)) == len(x)

    shapes = {
        "put": (number, kind, mark), "drop": (number,), "kind": (number, kind), "mark": (number, mark),
        "tie": (number, number, order), "untie": (number, number), "order": (number, number, order),
        "hand": (number, row, sign), "bare": (number,), "side": (number, number, number, number, sign),
        "flat": (number, number),
    }
    shape = shapes.get(value[0])
    if shape is None or len(value) != len(shape) + 1 or not all(fits(x) for fits, x in zip(shape, value[1:])):
        return False
    return value[0] not in ("tie", "untie", "order", "side", "flat") or value[1] != value[2]


def numbers_in(deed):
    """The numbers of parts that a deed tells."""
    word = deed[0]
    if word == "put":
        return []
    found = list(deed[1:{"tie": 3, "untie": 3, "order": 3, "side": 5, "flat": 3}.get(word, 2)])
    return found + (deed[2] if word == "hand" else [])


def plain_can(web, deed):
    """Whether a deed can be done, by the words of [141]."""
    parts, ties, hands, sides = web
    word = deed[0]
    if word == "put":
        return deed[1] <= len(parts) and len(parts) < 24
    if any(x >= len(parts) for x in numbers_in(deed)):
        return False
    beside = near(web)
    ends = tuple(sorted(deed[1:3])) if word in ("tie", "untie", "order", "side", "flat") else None
    tied = ends in [tie[:2] for tie in ties]
    if word == "tie":
        return not tied and len(ties) < 48 and all(len(beside[x]) < 6 for x in ends)
    if word in ("untie", "order"):
        return tied
    if word == "hand":
        return sorted(deed[2]) == beside[deed[1]]
    if word == "bare":
        return deed[1] in [hand[0] for hand in hands]
    if word == "side":
        a, b, x, y = deed[1:5]
        return ends in bearing_ties(web) and x in beside[a] and x != b and y in beside[b] and y != a
    if word == "flat":
        return ends in [side[:2] for side in sides]
    return True


def plain_lost(web, deed):
    """What is lost, by the words of [142]."""
    beside = near(web)
    touched = []
    if deed[0] in ("tie", "untie"):
        touched = deed[1:3]
    if deed[0] == "drop" and beside[deed[1]]:
        touched = [deed[1]] + beside[deed[1]]
    hands = [hand for hand in web[2] if hand[0] in touched]
    sides = [side for side in web[3] if set(side[:2]) & set(touched)]
    if deed[0] == "order" and (*sorted(deed[1:3]), deed[3]) not in web[1]:
        sides = [side for side in web[3] if side[:2] == tuple(sorted(deed[1:3]))]
    return hands, sides


def plain_done(web, deed):
    """The web done: told anew in lists for `made`, hands and sides at the neighbours in the sequence that they had."""
    word = deed[0]
    beside = near(web)
    gone_hands, gone_sides = plain_lost(web, deed)
    names = list(range(len(web[0])))
    parts = {part: web[0][part] for part in names}
    ties = {tie[:2]: tie[2] for tie in web[1]}
    hands = {a: (beside[a], sign) for a, sign in web[2] if (a, sign) not in gone_hands}
    sides = {}
    for a, b, sign in web[3]:
        if (a, b, sign) not in gone_sides:
            sides[(a, b)] = ([x for x in beside[a] if x != b][0], [y for y in beside[b] if y != a][0], sign)
    if word == "put":
        names.insert(deed[1], "new")
        parts["new"] = deed[2:4]
    elif word == "drop":
        names.remove(deed[1])
        ties = {ends: order for ends, order in ties.items() if deed[1] not in ends}
    elif word == "kind":
        parts[deed[1]] = (deed[2], parts[deed[1]][1])
    elif word == "mark":
        parts[deed[1]] = (parts[deed[1]][0], deed[2])
    elif word in ("tie", "order"):
        ties[tuple(sorted(deed[1:3]))] = deed[3]
    elif word == "untie":
        del ties[tuple(sorted(deed[1:3]))]
    elif word == "hand":
        hands[deed[1]] = (deed[2], deed[3])
    elif word == "bare":
        del hands[deed[1]]
    elif word == "side":
        a, b, x, y, sign = deed[1:]
        sides[(min(a, b), max(a, b))] = (x, y, sign) if a < b else (y, x, sign)
    else:
        del sides[tuple(sorted(deed[1:3]))]
    at = {name: place for place, name in enumerate(names)}
    return made(
        [parts[name] for name in names], [(at[a], at[b], order) for (a, b), order in ties.items()],
        [(at[a], [at[x] for x in row], sign) for a, (row, sign) in hands.items()],
        [(at[a], at[b], at[x], at[y], sign) for (a, b), (x, y, sign) in sides.items()],
    )


def some_deed(rng, web, word=None, can=0.9):
    """A deed with this word, mostly one that can be done."""
    word = word or rng.choice(WORDS)
    many = len(web[0])
    beside = near(web)
    far = 99 if rng.random() > can else max(many - 1, 1)

    def pair():
        a, b = rng.sample(range(max(far, 1) + 1), 2)
        return a, b

    def tied():
        if not web[1] or rng.random() > can:
            return pair()
        ends = list(rng.choice(web[1])[:2])
        rng.shuffle(ends)
        return tuple(ends)

    part = rng.randrange(far + 1)
    sign = rng.choice([1, -1])
    if word == "put":
        return ("put", rng.randrange(many + 1) if rng.random() < can else rng.randrange(100), rng.choice(["a", "zz"]), rng.randrange(-9, 10))
    if word in ("drop", "bare"):
        if word == "bare" and web[2] and rng.random() < can:
            part = rng.choice(web[2])[0]
        return (word, part)
    if word == "kind":
        return ("kind", part, rng.choice(["a", "b", "abcd"]))
    if word == "mark":
        return ("mark", part, rng.randrange(-9, 10))
    if word == "tie":
        return ("tie", *pair(), rng.randrange(1, 5))
    if word == "untie":
        return ("untie", *tied())
    if word == "order":
        return ("order", *tied(), rng.randrange(1, 5))
    if word == "hand":
        bearers = [a for a in range(many) if len(beside[a]) in (3, 4)]
        if bearers and rng.random() < can:
            part = rng.choice(bearers)
            row = list(beside[part])
            rng.shuffle(row)
            return ("hand", part, row, sign)
        return ("hand", part, rng.sample(range(max(far, 3) + 1), rng.choice([3, 4])), sign)
    if word == "side":
        able = bearing_ties(web)
        if able and rng.random() < can:
            a, b = rng.sample(rng.choice(able), 2)
            return ("side", a, b, rng.choice([x for x in beside[a] if x != b]), rng.choice([y for y in beside[b] if y != a]), sign)
        a, b = tied()
        return ("side", a, b, rng.randrange(far + 1), rng.randrange(far + 1), sign)
    if web[3] and rng.random() < can:
        return ("flat", *rng.sample(rng.choice(web[3])[:2], 2))
    return ("flat", *tied())


def webs_and_deeds(seed, many=60, most=24):
    """`(web, deed)`, deeds with each word at each web."""
    rng = random.Random(seed)
    for web in plain.SHAPES + some_webs(seed, many, most):
        for word in WORDS:
            yield web, some_deed(rng, web, word)


class Deeds(unittest.TestCase):
    def test_are_deeds(self):
        rng = random.Random(520)
        answers = []
        for web, deed in webs_and_deeds(521):
            self.assertIs(is_deed(deed), True)
            for value in rng.sample(changed_once(deed), 6):
                expected = plain_is_deed(value)
                self.assertIs(is_deed(value), expected, value)
                answers.append(expected)
        self.assertGreater(answers.count(True), 500)
        self.assertGreater(answers.count(False), 500)

    def test_edges_of_deeds(self):
        right = [
            ("put", 0, "a", -9), ("put", 99, "abcd", 9), ("drop", 99), ("kind", 0, "hand"), ("mark", 5, 0), ("tie", 0, 99, 4),
            ("tie", 5, 2, 1), ("untie", 1, 0), ("order", 0, 1, 4), ("hand", 0, [0, 1, 2], 1), ("hand", 0, [99, 98, 97, 0], -1),
            ("bare", 0), ("side", 0, 1, 2, 2, 1), ("side", 0, 1, 0, 1, -1), ("side", 9, 1, 1, 9, -1), ("flat", 3, 2),
        ]
        wrong = [
            ("put", 100, "a", 0), ("put", -1, "a", 0), ("put", 0, "a", 10), ("put", 0, "a", -10), ("put", 0, "", 0),
            ("put", 0, "abcde", 0), ("put", 0, "A", 0), ("put", 0, "a"), ("put", 0, "a", True), ("put", False, "a", 0),
            ("drop",), ("drop", 100), ("drop", True), ("drop", 0, 0), ("drop", None), ("kind", 0, None), ("mark", 0, "a"),
            ("tie", 0, 0, 1), ("tie", 0, 1, 0), ("tie", 0, 1, 5), ("tie", 0, 1, True), ("tie", 0, 1), ("untie", 2, 2),
            ("untie", 2, 1, 1), ("order", 1, 1, 2), ("order", 0, 1), ("hand", 0, [1, 2], 1), ("hand", 0, [1, 2, 3, 4, 5], 1),
            ("hand", 0, [1, 2, 2], 1), ("hand", 0, (1, 2, 3), 1), ("hand", 0, [1, 2, 100], 1), ("hand", 0, [1, 2, True], 1),
            ("hand", 0, [1, 2, 3], 0), ("hand", 0, [1, 2, 3], True), ("hand", 0, None, 1), ("bare", -1), ("bare",),
            ("side", 0, 0, 1, 2, 1), ("side", 0, 1, 2, 3), ("side", 0, 1, 2, 100, 1), ("side", 0, 1, 2, 3, 2),
            ("flat", 0, 0), ("flat", 0), ("new", "a", 0), ("Put", 0, "a", 0), ("drop ", 0), (None, 0), (["drop"], 0), ((), 0),
            ["drop", 0], ("drop", [0]), (1, 2, 3), ("",), ("put",),
        ]
        for value in right:
            self.assertIs(is_deed(value), True, value)
            self.assertIs(plain_is_deed(value), True)
        for value in wrong + ANY_VALUES:
            self.assertIs(is_deed(value), False, value)
            self.assertIs(plain_is_deed(value), False, value)


class Done(unittest.TestCase):
    def test_each_deed(self):
        answers = {}
        for web, deed in webs_and_deeds(522, 120):
            expected = plain_can(web, deed)
            self.assertIs(can_do(web, deed), expected, (web, deed))
            answers[(deed[0], expected)] = answers.get((deed[0], expected), 0) + 1
            if not expected:
                for function in (done, lost, back_row):
                    with self.assertRaises(CannotDo) as caught:
                        function(web, deed)
                    self.assertTrue(same_kinds(caught.exception.deed, deed))
                continue
            there = done(web, deed)
            self.assertIs(is_web(there), True)
            self.assertTrue(same_kinds(there, plain_done(web, deed)), (web, deed))
            self.assertTrue(same_kinds(lost(web, deed), plain_lost(web, deed)))
        self.assertEqual(len(answers), 22, answers)

    def test_at_the_edges(self):
        full, free = plain.alone(24), plain.alone(23)
        self.assertIs(can_do(full, ("put", 0, "a", 0)), False)
        self.assertIs(can_do(free, ("put", 23, "a", 0)), True)
        self.assertIs(can_do(free, ("put", 24, "a", 0)), False)
        self.assertIs(can_do(plain.alone(0), ("put", 0, "a", 0)), True)
        self.assertIs(can_do(plain.alone(0), ("drop", 0)), False)
        six = plain.star(6)
        wide = plain.beside(six, plain.star(5))
        self.assertIs(can_do(wide, ("tie", 0, 7, 1)), False)
        self.assertIs(can_do(wide, ("tie", 7, 1, 1)), True)
        self.assertIs(can_do(done(wide, ("tie", 7, 1, 1)), ("tie", 7, 2, 1)), False)
        ring = plain.ring(24)
        web = ring
        for k in range(24):
            web = done(web, ("tie", k, (k + 2) % 24, 1))
        self.assertEqual(len(web[1]), 48)
        self.assertIs(can_do(web, ("tie", 0, 5, 1)), False)
        self.assertIs(can_do(done(web, ("untie", 0, 1)), ("tie", 0, 5, 1)), True)
        self.assertIs(can_do(ring, ("tie", 1, 0, 2)), False)
        # Rows of just the neighbours, in any sequence.
        star = plain.star(3)
        for row, right in (([3, 1, 2], True), ([1, 2], False), ([0, 1, 2], False), ([1, 2, 3, 0], False), ([1, 2, 4], False)):
            if len(row) > 2:
                self.assertIs(can_do(star, ("hand", 0, row, 1)), right)
        for sides, right in ((("side", 0, 1, 2, 4, 1), True), (("side", 1, 0, 4, 2, 1), True), (("side", 0, 1, 4, 2, 1), False),
                             (("side", 0, 1, 1, 4, 1), False), (("side", 0, 1, 2, 0, 1), False), (("side", 0, 2, 1, 0, 1), False)):
            self.assertIs(can_do(plain.double(), sides), right)
        # The further neighbour may be the same one in a ring of three.
        three = ([K] * 3, [(0, 1, 2), (0, 2, 1), (1, 2, 1)], [], [])
        self.assertEqual(done(three, ("side", 1, 0, 2, 2, -1))[3], [(0, 1, -1)])
        self.assertIs(can_do(([K] * 3, [(0, 1, 1), (0, 2, 1), (1, 2, 1)], [], []), ("side", 0, 1, 2, 2, 1)), False)

    def test_hands_and_sides_at_sequences(self):
        rng = random.Random(523)
        for web in plain.SHAPES + some_webs(524, 60):
            beside = near(web)
            for a in range(len(web[0])):
                if len(beside[a]) in (3, 4):
                    row = list(beside[a])
                    rng.shuffle(row)
                    for sign in (1, -1):
                        there = done(web, ("hand", a, row, sign))
                        self.assertEqual(dict(there[2])[a], sign * sign_of_sequence(row))
                        self.assertEqual([x for x in there[2] if x[0] != a], [x for x in web[2] if x[0] != a])
                        self.assertEqual((there[:2], there[3]), (web[:2], web[3]))
            for a, b in bearing_ties(web):
                for x in beside[a]:
                    for y in beside[b]:
                        if x != b and y != a:
                            told = 1 if (x == min(set(beside[a]) - {b})) == (y == min(set(beside[b]) - {a})) else -1
                            for deed in (("side", a, b, x, y, -1), ("side", b, a, y, x, -1)):
                                there = done(web, deed)
                                self.assertIn((a, b, -told), there[3])
                                rest = [[side for side in told_sides if side[:2] != (a, b)] for told_sides in (there[3], web[3])]
                                self.assertEqual(rest[0], rest[1])

    def test_what_is_lost_and_what_stays(self):
        web = ([K] * 6, [(0, 2, 1), (1, 2, 1), (2, 3, 2), (3, 4, 1), (3, 5, 1)], [(2, 1), (3, -1)], [(2, 3, 1)])
        cases = [
            (("order", 2, 3, 2), [], []), (("order", 3, 2, 1), [], [(2, 3, 1)]), (("order", 0, 2, 4), [], []),
            (("untie", 0, 2), [(2, 1)], [(2, 3, 1)]), (("tie", 0, 5, 1), [], []), (("tie", 0, 1, 1), [], []),
            (("tie", 0, 3, 1), [(3, -1)], [(2, 3, 1)]), (("drop", 0), [(2, 1)], [(2, 3, 1)]),
            (("drop", 2), [(2, 1), (3, -1)], [(2, 3, 1)]), (("bare", 2), [], []), (("flat", 2, 3), [], []),
            (("hand", 2, [3, 0, 1], 1), [], []), (("side", 2, 3, 0, 4, -1), [], []), (("put", 0, "a", 0), [], []),
            (("kind", 2, "a"), [], []), (("mark", 2, 3), [], []),
        ]
        for deed, hands, sides in cases:
            self.assertEqual(lost(web, deed), (hands, sides), deed)
            there = done(web, deed)
            if deed[0] not in ("bare", "flat"):
                self.assertEqual((len(there[2]), len(there[3])), (2 - len(hands), 1 - len(sides)))
        ring = ([K] * 4, [(0, 1, 2), (0, 3, 2), (1, 2, 2), (2, 3, 2)], [], [(0, 1, 1), (0, 3, 1), (1, 2, 1), (2, 3, -1)])
        self.assertEqual(lost(ring, ("untie", 0, 1)), ([], [(0, 1, 1), (0, 3, 1), (1, 2, 1)]))
        self.assertEqual(lost(ring, ("tie", 0, 2, 1)), ([], ring[3]))
        self.assertEqual(lost(ring, ("order", 0, 3, 1)), ([], [(0, 3, 1)]))
        self.assertEqual(done(plain.beside(plain.alone(1), ring), ("drop", 0)), ring)

    def test_rows(self):
        rng = random.Random(525)
        for web in some_webs(526, 30):
            deeds, here = [], web
            for _ in range(20):
                deed = some_deed(rng, here)
                if plain_can(here, deed):
                    deeds.append(deed)
                    here = plain_done(here, deed)
            self.assertTrue(same_kinds(done_all(web, deeds), here))
            self.assertIs(leads(web, here, deeds), True)
            place = rng.randrange(len(deeds) + 1)
            before = done_all(web, deeds[:place])
            wrong = [deed for deed in (some_deed(rng, before, None, 0.3) for _ in range(30)) if not plain_can(before, deed)]
            for deed in wrong[:2]:
                told = deeds[:place] + [deed, ("drop", 99)]
                with self.assertRaises(CannotDo) as caught:
                    done_all(web, told)
                self.assertTrue(same_kinds(caught.exception.deed, deed))
                self.assertIs(leads(web, before, told), False)
        self.assertEqual(done_all(plain.row(2), []), plain.row(2))


class Renumbered(unittest.TestCase):
    def test_the_fact(self):
        rng = random.Random(527)
        words = set()
        for web, deed in webs_and_deeds(528, 80):
            if not plain_can(web, deed):
                continue
            p = some_numbering(rng, len(web[0]))
            far = renumbered_deed(deed, p)
            self.assertIs(is_deed(far), True)
            behind = numbering_behind(deed, p)
            there = done(web, deed)
            self.assertIs(is_numbering(behind, len(there[0])), True)
            self.assertIs(can_do(renumbered(web, p), far), True)
            self.assertEqual(renumbered(there, behind), done(renumbered(web, p), far))
            words.add(deed[0])
        self.assertEqual(words, set(WORDS))

    def test_told_ones(self):
        p = [2, 0, 3, 1]
        told = {
            ("put", 1, "a", 0): ("put", 1, "a", 0), ("drop", 3): ("drop", 1), ("kind", 0, "b"): ("kind", 2, "b"),
            ("mark", 1, 2): ("mark", 0, 2), ("tie", 0, 1, 3): ("tie", 2, 0, 3), ("untie", 3, 2): ("untie", 1, 3),
            ("order", 1, 2, 1): ("order", 0, 3, 1), ("bare", 2): ("bare", 3), ("side", 0, 1, 2, 3, -1): ("side", 2, 0, 3, 1, -1),
            ("flat", 1, 3): ("flat", 0, 1),
        }
        for deed, expected in told.items():
            self.assertTrue(same_kinds(renumbered_deed(deed, p), expected))
        self.assertEqual(renumbered_deed(("hand", 0, [3, 2, 1], -1), p), ("hand", 2, [1, 3, 0], -1))
        self.assertEqual([numbering_behind(("put", place, "a", 0), p) for place in (0, 2, 4)],
                         [[0, 3, 1, 4, 2], [3, 0, 2, 4, 1], [2, 0, 3, 1, 4]])
        self.assertEqual([numbering_behind(("drop", a), p) for a in range(4)], [[0, 2, 1], [1, 2, 0], [2, 0, 1], [1, 0, 2]])
        self.assertEqual(numbering_behind(("untie", 0, 1), p), p)


class Rows(unittest.TestCase):
    def test_back(self):
        longest = 0
        for web, deed in webs_and_deeds(529, 120):
            if plain_can(web, deed):
                row = back_row(web, deed)
                self.assertLessEqual(len(row), 60)
                self.assertTrue(all(plain_is_deed(x) for x in row))
                self.assertEqual(done_all(done(web, deed), row), web)
                self.assertIs(leads(done(web, deed), web, row), True)
                longest = max(longest, len(row))
        self.assertGreater(longest, 8)
        # Six neighbours, each with a hand and with sides.
        parts = [K] * 19
        ties = [(0, k, 1) for k in range(1, 7)] + [(k, 5 + 2 * k + j, 2) for k in range(1, 7) for j in range(2)]
        ties = sorted(ties + [(k, k + 1, 1) for k in (7, 9, 11, 13, 15, 17)])
        web = (parts, ties, [(k, 1) for k in range(1, 7)], [])
        web = (*web[:3], [(a, b, -1) for a, b in bearing_ties(web)])
        self.assertEqual((len(web[3]), len(back_row(web, ("drop", 0)))), (12, 1 + 6 + 6 + 12))
        self.assertEqual(done_all(done(web, ("drop", 0)), back_row(web, ("drop", 0))), web)

    def test_between(self):
        rng = random.Random(530)
        webs = plain.SHAPES + some_webs(531, 50)
        longest = 0
        for web in webs:
            for other in rng.sample(webs, 8) + [web]:
                row = row_between(web, other)
                self.assertLessEqual(len(row), 200)
                self.assertTrue(all(plain_is_deed(deed) for deed in row))
                self.assertEqual(done_all(web, row), other)
                self.assertIs(leads(web, other, row), True)
                longest = max(longest, len(row))
            self.assertEqual(row_between(web, web), [])
        # As much as can be changed: all kinds, marks, ties and hands.
        dense = [some_web(random.Random(number), 24, 48) for number in range(6)]
        for web in dense:
            other = renumbered(web, some_numbering(rng, 24))
            other = ([("q", 5)] * 24, *other[1:])
            row = row_between(web, other)
            self.assertIs(leads(web, other, row), True)
            longest = max(longest, len(row))
        self.assertGreater(longest, 130)

    def test_leads(self):
        web, other = plain.row(3), plain.ring(3)
        row = [("tie", 2, 0, 1)]
        self.assertIs(leads(web, other, row), True)
        for value in ANY_VALUES + [tuple(row), row[0], [list(row[0])], row * 2, row + [("drop", 0)], [("tie", 2, 0, 2)], [None],
                                   row + [None], [("drop", 9)] + row, row + [("put", 0, "a", 0, 0)]]:
            self.assertIs(leads(web, other, value), False, value)
        for value in ANY_VALUES:
            self.assertIs(leads(web, web, value), type(value) is list and value == [])
        turns = [("mark", 0, 1), ("mark", 0, 0)]
        self.assertIs(leads(web, web, turns * 100), True)
        self.assertIs(leads(web, web, turns * 101), False)
        self.assertIs(leads(web, other, row + turns * 99 + [("mark", 1, 0)]), True)
        self.assertIs(leads(web, other, row + turns * 100), False)
        rng = random.Random(532)
        answers = []
        for web in some_webs(533, 20, 8):
            other = some_web(rng, len(web[0]), 8)
            row = row_between(web, other)
            changed = changed_once(row)
            for value in rng.sample(changed, min(len(changed), 30)):
                expected = type(value) is list and all(plain_is_deed(deed) for deed in value)
                here = web
                for deed in value if expected else []:
                    expected = expected and plain_can(here, deed)
                    here = plain_done(here, deed) if expected else here
                expected = expected and here == other
                self.assertIs(leads(web, other, value), expected)
                answers.append(expected)
        self.assertGreater(answers.count(False), 200)


if __name__ == "__main__":
    unittest.main()
