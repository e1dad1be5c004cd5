"""webnames.library: a Library [158] and its look-ups [159], against a look at all rows."""

import random
import unittest

from tests import plain
from tests.helper import lists_in, same_kinds, some_numbering, some_webs
from tests.test_pairings import with_other_signs
from tests.test_patterns import pattern_in, plain_matches
from webnames.coarsest import card_of
from webnames.errors import TakenLabel, TooMany, UnknownLabel
from webnames.library import Library, plain_bare_same, plain_mirror_same, plain_same, plain_with_pattern
from webnames.mirrors import bare, mirror
from webnames.names import is_alike
from webnames.numberings import renumbered

K = plain.K
LABELS = ["a", "b", "z9", "0", "10", "2", "abcdefghijkl", "hand", "00", "a0", "aa"]


def kin_webs(seed, most=6):
    """Webs of which some are alike, some mirrors, some alike when both are bare."""
    rng = random.Random(seed)
    found = []
    for web in [plain.star(3, 1), plain.double(), plain.twins((1, 1)), plain.twins((1, -1)), plain.alone(0)] + some_webs(seed, 10, most):
        unlike = ([(kind, k % 2) for k, (kind, _) in enumerate(web[0])], *web[1:])
        for other in (web, unlike, bare(web), mirror(unlike), with_other_signs(rng, unlike)):
            found.append(renumbered(other, some_numbering(rng, len(web[0]))))
    rng.shuffle(found)
    return found


def labels_of(rows, fits):
    return sorted(label for label, web in rows if fits(web))


class LookUps(unittest.TestCase):
    def check(self, rng, shelf, rows):
        """Each look-up against a look at all rows."""
        self.assertTrue(same_kinds(shelf.rows(), sorted(rows.items())))
        told = list(rows.items())
        rng.shuffle(told)
        for web in rng.sample(kin_webs(580), 4) + [web for _, web in told[:2]]:
            same = labels_of(told, lambda other: is_alike(other, web))
            bare_same = labels_of(told, lambda other: is_alike(bare(other), bare(web)))
            mirror_same = labels_of(told, lambda other: is_alike(other, mirror(web)))
            for found, plain_found, expected in (
                (shelf.same(web), plain_same(told, web), same), (shelf.bare_same(web), plain_bare_same(told, web), bare_same),
                (shelf.mirror_same(web), plain_mirror_same(told, web), mirror_same),
            ):
                self.assertTrue(same_kinds(found, expected))
                self.assertTrue(same_kinds(plain_found, expected))
            self.assertTrue(set(same) | set(mirror_same) <= set(bare_same))
        classes = []
        for label in sorted(rows):
            here = [row for row in classes if is_alike(rows[row[0]], rows[label])]
            here[0].append(label) if here else classes.append([label])
        self.assertTrue(same_kinds(shelf.classes(), classes))

    def test_behind_any_sequence(self):
        rng = random.Random(581)
        webs = kin_webs(580)
        words = {}
        for _ in range(6):
            shelf, rows = Library(), {}
            for number in range(24):
                label, web = rng.choice(LABELS), rng.choice(webs)
                if rng.random() < 0.65:
                    word = self.add(shelf, rows, web, label)
                else:
                    word = self.take_out(shelf, rows, label)
                words[word] = words.get(word, 0) + 1
                if number % 6 == 5:
                    self.check(rng, shelf, rows)
        self.assertEqual(set(words), {"add", "taken", "take out", "unknown"})

    def add(self, shelf, rows, web, label):
        if label in rows:
            with self.assertRaises(TakenLabel) as caught:
                shelf.add(web, label)
            self.assertEqual(caught.exception.label, label)
            return "taken"
        expected = labels_of(rows.items(), lambda other: is_alike(other, web))
        self.assertTrue(same_kinds(shelf.add(web, label), expected))
        rows[label] = web
        return "add"

    def take_out(self, shelf, rows, label):
        if label not in rows:
            for function in (shelf.take_out, shelf.web_of):
                with self.assertRaises(UnknownLabel) as caught:
                    function(label)
                self.assertEqual(caught.exception.label, label)
            return "unknown"
        self.assertTrue(same_kinds(shelf.web_of(label), rows[label]))
        self.assertTrue(same_kinds(shelf.take_out(label), rows[label]))
        del rows[label]
        return "take out"

    def test_patterns(self):
        rng = random.Random(582)
        shelf = Library()
        rows = {}
        for number, web in enumerate(kin_webs(583)[:30]):
            rows[str(number)] = web
            shelf.add(web, str(number))
        answers = set()
        for web in rows.values():
            pattern = pattern_in(rng, web, rng.randrange(4))
            expected = labels_of(rows.items(), lambda other: bool(plain_matches(pattern, other)))
            self.assertTrue(same_kinds(shelf.with_pattern(pattern), expected))
            self.assertTrue(same_kinds(plain_with_pattern(sorted(rows.items(), reverse=True), pattern), expected))
            answers.add((len(expected) > 1, len(expected) < len(rows)))
        self.assertTrue({(True, True), (True, False)} <= answers, answers)

    def test_unlike_webs_with_equal_cards(self):
        shelf = Library()
        one, two = plain.ring(6), plain.beside(plain.ring(3), plain.ring(3))
        self.assertEqual(card_of(one), card_of(two))
        self.assertEqual([shelf.add(one, "a"), shelf.add(two, "b"), shelf.classes()], [[], [], [["a"], ["b"]]])
        for function in (shelf.same, shelf.bare_same, shelf.mirror_same):
            self.assertEqual([function(one), function(two)], [["a"], ["b"]])
        for function in (plain_same, plain_bare_same, plain_mirror_same):
            self.assertEqual([function(shelf.rows(), web) for web in (one, two)], [["a"], ["b"]])

    def test_too_many_tables(self):
        shelf = Library()
        free = ([((), None)] * 3, [], [], [])
        shelf.add(plain.alone(15), "b")
        shelf.add(plain.row(2), "a")
        self.assertEqual(shelf.with_pattern(free), ["b"])
        shelf.add(plain.alone(16), "c")
        for call in (lambda: shelf.with_pattern(free), lambda: plain_with_pattern(shelf.rows(), free)):
            with self.assertRaises(TooMany) as caught:
                call()
            self.assertEqual((caught.exception.what, caught.exception.limit), ("tables", 3000))
        shelf.take_out("c")
        self.assertEqual(shelf.with_pattern(free), ["b"])

    def test_nothing_kept(self):
        shelf, web = Library(), plain.star(3, 1)
        self.assertEqual((shelf.rows(), shelf.classes(), shelf.same(web), shelf.bare_same(web), shelf.mirror_same(web)), ([],) * 5)
        self.assertEqual((shelf.with_pattern(([], [], [], [])), plain_same([], web), plain_with_pattern([], ([], [], [], []))), ([],) * 3)
        shelf.add(plain.alone(0), "a")
        self.assertEqual((shelf.with_pattern(([], [], [], [])), shelf.same(plain.alone(0))), (["a"], ["a"]))


class Kept(unittest.TestCase):
    def test_60_webs_and_one_more(self):
        shelf = Library()
        for number in range(60):
            self.assertEqual(len(shelf.add(plain.alone(number % 20), f"w{number}")), number // 20)
        with self.assertRaises(TooMany) as caught:
            shelf.add(plain.row(3), "more")
        self.assertEqual((caught.exception.what, caught.exception.limit), ("webs", 60))
        # A label that is taken is told first.
        with self.assertRaises(TakenLabel):
            shelf.add(plain.row(3), "w7")
        self.assertEqual((len(shelf.rows()), shelf.same(plain.row(3))), (60, []))
        self.assertEqual(len(shelf.classes()), 20)
        self.assertEqual(shelf.take_out("w7"), plain.alone(7))
        self.assertEqual(shelf.add(plain.row(3), "more"), [])
        with self.assertRaises(TooMany):
            shelf.add(plain.row(3), "w7")

    def test_what_is_passed_and_returned_is_copied(self):
        web = tuple(list(rows) for rows in plain.star(3, 1))
        shelf = Library()
        shelf.add(web, "a")
        shelf.add(web, "b")
        for rows in web:
            rows.clear()
        for told in (shelf.rows(), shelf.web_of("a"), shelf.classes(), shelf.same(plain.star(3, 1)), shelf.take_out("b")):
            for row in lists_in(told):
                row.append("more")
        self.assertEqual(shelf.rows(), [("a", plain.star(3, 1))])
        self.assertEqual(shelf.same(plain.star(3, -1)), ["a"])
        self.assertEqual(shelf.classes(), [["a"]])
        rows = [("b", plain.star(3, 1)), ("a", plain.star(3, 1))]
        self.assertEqual(plain_same(rows, plain.star(3, 1)), ["a", "b"])
        self.assertEqual(rows, [("b", plain.star(3, 1)), ("a", plain.star(3, 1))])

    def test_greater_webs(self):
        rng = random.Random(584)
        shelf = Library()
        webs = [plain.cube([1, 1, -1, 1, 1, -1, 1, 1]), plain.ring(24), plain.ladder(12), plain.beside(*[plain.star(3, 1)] * 6),
                plain.beside(plain.ring(12), plain.ring(12)), plain.twins((1, -1, 1, 1, -1, 1)), plain.PETERSEN, plain.FRUCHT]
        for number, web in enumerate(webs):
            self.assertEqual(shelf.add(web, f"a{number}"), [])
        for number, web in enumerate(webs):
            far = renumbered(web, some_numbering(rng, len(web[0])))
            self.assertEqual(shelf.add(far, f"b{number}"), [f"a{number}"])
            self.assertTrue({f"a{number}", f"b{number}"} <= set(shelf.bare_same(mirror(far))))
            self.assertTrue({f"a{number}", f"b{number}"} <= set(shelf.mirror_same(mirror(far))))
        self.assertEqual(shelf.classes(), [[f"a{number}", f"b{number}"] for number in range(len(webs))])


if __name__ == "__main__":
    unittest.main()
