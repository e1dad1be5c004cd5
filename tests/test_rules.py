"""webnames.rules: rules and their being applied [146], results and what is reached [147]."""

import random
import unittest

from tests import plain
from tests.helper import ANY_VALUES, NOT_COUNTS, changed_once, same_kinds, some_numbering, some_webs
from tests.test_deeds import numbers_in, plain_can, plain_done, plain_is_deed, some_deed
from tests.test_patterns import pattern_in, plain_is_pattern, plain_matches
from webnames.errors import CannotDo, InvalidMany, TooMany
from webnames.matching import matches
from webnames.numberings import renumbered
from webnames.patterns import pattern_of
from webnames.rules import applied, is_rule, reached, results
from webnames.search import quick_name
from webnames.writer import read_name

K = plain.K
ANY = ((), None)
ONE = ([ANY], [], [], [])


def plain_is_rule(value):
    if type(value) is not tuple or len(value) != 2 or not plain_is_pattern(value[0]) or not value[0][0]:
        return False
    return type(value[1]) is list and len(value[1]) <= 12 and all(plain_is_rule_deed(deed) for deed in value[1])


def plain_is_rule_deed(value):
    if type(value) is tuple and len(value) == 3 and value[0] == "new":
        return plain_is_deed(("put", 0, *value[1:]))
    return plain_is_deed(value) and value[0] != "put"


def with_parts(deed, lead):
    """The deed with other numbers of parts."""
    many = {"tie": 3, "untie": 3, "order": 3, "side": 5, "flat": 3}.get(deed[0], 2)
    told = tuple([lead[x] for x in deed[1:many]])
    if deed[0] == "hand":
        return ("hand", *told, [lead[x] for x in deed[2]], deed[3])
    return (deed[0], *told, *deed[many:])


def plain_applied(web, rule, match):
    """`(web, None)`, or `(None, deed)` with the first rule deed that cannot be done: parts have names of their own."""
    names = list(range(len(web[0])))
    stands = dict(enumerate(match))
    for deed in rule[1]:
        if deed[0] == "new":
            meant = ("put", len(web[0]), *deed[1:])
        else:
            if not all(stands.get(x) in names for x in numbers_in(deed)):
                return None, deed
            meant = with_parts(deed, {x: names.index(stands[x]) for x in numbers_in(deed)})
        if not plain_can(web, meant):
            return None, deed
        web = plain_done(web, meant)
        if deed[0] == "new":
            stands[max(stands) + 1] = ("new", len(stands))
            names.append(stands[max(stands)])
        if deed[0] == "drop":
            names.pop(meant[1])
    return web, None


def some_rule(rng, web):
    """A rule whose pattern mostly has a match in the web, with deeds that often can be done at one."""
    pattern = pattern_in(rng, web, rng.randrange(1, 4)) if web[0] else ONE
    found = plain_matches(pattern, web) if len(web[0]) < 9 else []
    deeds, here = [], web
    many = len(pattern[0])
    parts = dict(enumerate(rng.choice(found))) if found else {}
    for _ in range(rng.randrange(6)):
        if rng.random() < 0.25:
            deeds.append(("new", rng.choice(["a", "k"]), rng.randrange(2)))
            many += 1
        else:
            deed = some_deed(rng, here, rng.choice(["drop", "kind", "mark", "tie", "tie", "untie", "order", "hand", "bare", "side", "flat"]))
            back = {part: number for number, part in parts.items()}
            told = {x: back.get(x, rng.randrange(many + (rng.random() < 0.1))) for x in numbers_in(deed)}
            deed = with_parts(deed, told)
            if plain_is_deed(deed):
                deeds.append(deed)
    return (pattern, deeds)


class Rules(unittest.TestCase):
    def test_are_rules(self):
        rng = random.Random(550)
        answers = []
        for web in some_webs(551, 40, 8):
            rule = some_rule(rng, web)
            self.assertIs(is_rule(rule), True)
            for value in rng.sample(changed_once(rule), 40):
                expected = plain_is_rule(value)
                self.assertIs(is_rule(value), expected, value)
                answers.append(expected)
        self.assertGreater(answers.count(True), 100)
        self.assertGreater(answers.count(False), 500)

    def test_edges(self):
        new, drop = ("new", "a", 0), ("drop", 0)
        right = [(ONE, []), (ONE, [new] * 12), (ONE, [drop, new, ("tie", 98, 99, 4)]), (([ANY] * 8, [], [], []), [drop]),
                 (ONE, [("hand", 7, [1, 2, 3], -1)]), (ONE, [("new", "abcd", -9)])]
        wrong = [(ONE, [new] * 13), (([], [], [], []), []), (ONE, [("put", 0, "a", 0)]), (ONE, (new,)), [ONE, []], (ONE, [], []),
                 (ONE,), (ONE, [None]), (ONE, [list(new)]), (ONE, [("new", "a")]), (ONE, [("new", "a", 0, 0)]), (ONE, [("new", "", 0)]),
                 (ONE, [("new", "a", 10)]), (ONE, [("new", "a", True)]), (ONE, [("new", "A", 0)]), (ONE, [("drop", 100)]),
                 (ONE, [("tie", 0, 0, 1)]), (ONE, None), (None, []), (([ANY] * 9, [], [], []), []), (plain.row(2), [])]
        for value in right:
            self.assertIs(is_rule(value), True, value)
        for value in wrong + ANY_VALUES:
            self.assertIs(is_rule(value), False, value)

    def test_applied(self):
        rng = random.Random(552)
        answers = {True: 0, False: 0}
        for web in some_webs(553, 120, 8):
            rule = some_rule(rng, web)
            for match in matches(rule[0], web)[:6]:
                there, wrong = plain_applied(web, rule, match)
                answers[wrong is None] += 1
                if wrong is None:
                    self.assertTrue(same_kinds(applied(web, rule, match), there))
                else:
                    with self.assertRaises(CannotDo) as caught:
                        applied(web, rule, match)
                    self.assertTrue(same_kinds(caught.exception.deed, wrong))
        self.assertGreater(min(answers.values()), 40, answers)

    def check_wrong(self, web, deeds, match, wrong):
        with self.assertRaises(CannotDo) as caught:
            applied(web, (([ANY] * len(match), [], [], []), deeds), match)
        self.assertTrue(same_kinds(caught.exception.deed, wrong))

    def test_numbers_that_stand_for_nothing(self):
        web = plain.row(3)
        two = ([ANY] * 2, [], [], [])
        for deeds, wrong in (
            ([("drop", 2)], ("drop", 2)), ([("tie", 0, 2, 1), ("new", "a", 0)], ("tie", 0, 2, 1)), ([("drop", 0), ("drop", 0)], ("drop", 0)),
            ([("drop", 1), ("mark", 0, 1), ("mark", 1, 1)], ("mark", 1, 1)), ([("new", "a", 0), ("drop", 3)], ("drop", 3)),
            ([("drop", 0), ("new", "a", 0), ("kind", 0, "b")], ("kind", 0, "b")), ([("tie", 0, 1, 1)], ("tie", 0, 1, 1)),
            ([("new", "a", 0), ("drop", 2), ("kind", 2, "b")], ("kind", 2, "b")), ([("hand", 0, [1, 2, 3], 1)], ("hand", 0, [1, 2, 3], 1)),
        ):
            self.check_wrong(web, deeds, [1, 2], wrong)
        # Numbers keep standing for their parts, whatever numbers these get.
        self.assertEqual(applied(web, (two, [("drop", 1), ("mark", 0, 5)]), [2, 0])[0], [K, ("k", 5)])
        self.assertEqual(applied(web, (two, [("new", "a", 0), ("drop", 0), ("tie", 1, 2, 3), ("mark", 2, 1)]), [0, 2]),
                         ([K, K, ("a", 1)], [(0, 1, 1), (1, 2, 3)], [], []))
        self.assertEqual(applied(web, (two, [("drop", 0), ("drop", 1), ("new", "a", 0)]), [0, 2]),
                         ([K, ("a", 0)], [], [], []))
        self.assertEqual(applied(plain.row(4), (([ANY] * 3, [], [], []), [("drop", 2), ("drop", 0), ("mark", 1, 7)]), [1, 3, 0])[0],
                         [K, ("k", 7)])
        full = plain.alone(24)
        self.check_wrong(full, [("new", "a", 0)], [3], ("new", "a", 0))
        self.check_wrong(full, [("drop", 0), ("new", "a", 0), ("new", "b", 0)], [3], ("new", "b", 0))
        self.assertEqual(applied(web, (two, []), [0, 1]), web)


class Results(unittest.TestCase):
    def test_each_match(self):
        rng = random.Random(554)
        sizes = set()
        for web in some_webs(555, 50, 7):
            rule = some_rule(rng, web)
            there = [plain_applied(web, rule, match)[0] for match in plain_matches(rule[0], web)]
            expected = sorted({quick_name(other) for other in there if other is not None})
            self.assertEqual(results(web, rule), expected)
            sizes.add(min(len(expected), 3))
            far = renumbered(web, some_numbering(rng, len(web[0])))
            self.assertEqual(results(far, rule), expected)
        self.assertEqual(sizes, {0, 1, 2, 3})

    def test_alike_matches(self):
        # All parts are like one another, so one result comes of all matches.
        web = plain.cube([1] * 8)
        self.assertEqual(len(results(web, (ONE, [("bare", 0)]))), 1)
        self.assertEqual(len(results(plain.ring(24), (([ANY] * 2, [], [], []), [("tie", 0, 1, 1)]))), 11)
        self.assertEqual(results(plain.alone(0), (ONE, [])), [])
        self.assertEqual(results(plain.ring(3), (ONE, [])), [quick_name(plain.ring(3))])

    def test_too_many(self):
        free = (([ANY] * 3, [], [], []), [])
        for call in (lambda: results(plain.alone(16), free), lambda: reached(plain.alone(16), free, 1)):
            with self.assertRaises(TooMany) as caught:
                call()
            self.assertEqual((caught.exception.what, caught.exception.limit), ("tables", 3000))
        self.assertEqual(reached(plain.alone(16), free, 0), [quick_name(plain.alone(16))])


class Reached(unittest.TestCase):
    def test_0_to_3_steps(self):
        rng = random.Random(556)
        checked = 0
        for web in some_webs(557, 40, 4):
            rule = some_rule(rng, web)
            found, last = {quick_name(web)}, {quick_name(web)}
            for many in range(4):
                if len(found) <= 100:
                    self.assertEqual(reached(web, rule, many), sorted(found))
                    checked += len(found) > 2
                else:
                    with self.assertRaises(TooMany) as caught:
                        reached(web, rule, many)
                    self.assertEqual((caught.exception.what, caught.exception.limit), ("webs", 100))
                last = {name for text in last for name in results(read_name(text), rule)}
                found |= last
        self.assertGreater(checked, 10)

    def test_a_web_that_is_reached_again(self):
        flip = (([(("a",), None)], [], [], []), [("kind", 0, "b")])
        turn = (([(("a", "b"), None)], [], [], []), [("mark", 0, 1)])
        web = ([("a", 0)] * 3, [], [], [])
        self.assertEqual([len(reached(web, flip, many)) for many in range(4)], [1, 2, 3, 4])
        self.assertEqual([len(reached(web, turn, many)) for many in range(4)], [1, 2, 3, 4])
        self.assertEqual(reached(plain.row(2), flip, 3), [quick_name(plain.row(2))])
        swing = (pattern_of(plain.row(2)), [("untie", 0, 1), ("tie", 0, 1, 1)])
        self.assertEqual(reached(plain.row(2), swing, 3), [quick_name(plain.row(2))])

    def test_100_webs_and_more(self):
        # A part's mark becomes 1 for one kind each: one web, and one more for each kind.
        kinds = ["a", "b", "c", "d", "e", "f", "g", "h", "i", "j", "l", "m", "n"]
        counts = {}
        for many in range(9, 14):
            web = ([(kind, 0) for kind in kinds[:many]], [], [], [])
            rule = (([((), 0)], [], [], []), [("mark", 0, 1)])
            # In two steps: 1, then one for each kind, then one for each two.
            counts[many] = 1 + many + many * (many - 1) // 2
            if counts[many] <= 100:
                self.assertEqual(len(reached(web, rule, 2)), counts[many])
        self.assertEqual(counts[13], 92)
        web = ([(kind, 0) for kind in kinds + ["o"]], [], [], [])
        with self.assertRaises(TooMany) as caught:
            reached(web, (([((), 0)], [], [], []), [("mark", 0, 1)]), 2)
        self.assertEqual((caught.exception.what, caught.exception.limit), ("webs", 100))
        # Just 100: a web, and 99 from 9 unlike parts tied with one of 11 others.
        parts = [(kind, 0) for kind in kinds[:9]] + [(kind, 1) for kind in kinds[:11]]
        rule = (([((), 0), ((), 1)], [], [], []), [("tie", 0, 1, 1)])
        self.assertEqual(len(reached((parts, [], [], []), rule, 1)), 100)
        with self.assertRaises(TooMany):
            reached((parts + [("n", 1)], [], [], []), rule, 1)

    def test_many(self):
        for many in NOT_COUNTS + [4, 100]:
            with self.assertRaises(InvalidMany) as caught:
                reached(plain.alone(16), (([ANY] * 3, [], [], []), []), many)
            self.assertTrue(same_kinds(caught.exception.value, many))


if __name__ == "__main__":
    unittest.main()
