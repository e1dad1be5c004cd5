"""webnames.answering: answers to questions [161], unlike papers [162], descriptions [163] and kin papers [164] made."""

import random
import unittest
from unittest import mock

from tests import plain
from tests.helper import same_kinds, some_numbering, some_webs
from tests.test_commonpapers import HARD
from tests.test_judging import WORDS_OF_QUESTIONS, some_question, some_questions, told_lengths
from tests.test_pairings import with_other_signs
from webnames.answering import (
    answer, compare, describe, kin_lists, kin_paper, plain_truth, told_by, unlike_papers,
)
from webnames.bounds import common_size
from webnames.errors import TooMany
from webnames.judging import is_answer, is_description, is_kin_paper, is_unlike_paper
from webnames.leastforms import WORDS, parted_by
from webnames.mirrors import mirror
from webnames.namepapers import endless_paper, name_paper
from webnames.names import is_alike, name
from webnames.numberings import is_pairing, renumbered
from webnames.pairings import first_pairing
from webnames.patterns import renumbered_pattern
from webnames.search import quick_name
from webnames.symmetric import symmetry_count

K = plain.K
ANY = ((), None)


def led_question(rng, question):
    """The question about renumbered webs, with parts led along."""
    word, web = question[:2]
    if word == "match":
        p = some_numbering(rng, len(question[2][0]))
        return ("match", renumbered_pattern(web, some_numbering(rng, len(web[0]))), renumbered(question[2], p))
    p = some_numbering(rng, len(web[0]))
    far = renumbered(web, p)
    if word in ("alike", "common"):
        return (word, far, renumbered(question[2], some_numbering(rng, len(question[2][0]))), *question[3:])
    if word in ("hand", "led", "joined"):
        return (word, far, *[p[x] for x in question[2:]])
    return (word, far, *question[2:])


class Answers(unittest.TestCase):
    def test_each_question_with_yes_and_no(self):
        rng = random.Random(610)
        answers = {}
        for question in some_questions(611, 6, 40):
            told = answer(question)
            self.assertIs(type(told), tuple)
            self.assertIn(told[0], ("yes", "no"))
            self.assertIs(is_answer(question, told), True)
            self.assertTrue(same_kinds(answer(question), told))
            try:
                self.assertIs(plain_truth(question), told[0] == "yes", question)
            except TooMany as error:
                self.assertEqual((question[0], error.what, error.limit), ("common", "parts", 4))
            self.assertEqual(answer(led_question(rng, question))[0], told[0])
            answers.setdefault(question[0], set()).add(told[0])
        self.assertEqual(answers, {word: {"yes", "no"} for word in WORDS_OF_QUESTIONS})

    def test_greater_webs(self):
        rng = random.Random(612)
        answers = {}
        webs = [plain.ring(24), plain.ladder(12), plain.cube([1, 1, -1, 1, 1, -1, 1, 1]), plain.FRUCHT, plain.PETERSEN, plain.UNEVEN,
                plain.twins((1, -1, 1, 1, -1, 1)), plain.beside(*[plain.star(3, sign) for sign in (1, -1, 1, 1)]),
                plain.beside(*[plain.ring(3)] * 8), plain.alone(24), plain.beside(*[plain.double(sign) for sign in (1, 1, -1)])]
        for web in webs + some_webs(613, 10):
            for word in WORDS_OF_QUESTIONS:
                question = some_question(rng, web, word)
                if question is None:
                    continue
                try:
                    told = answer(question)
                except TooMany as error:
                    self.assertIn((word, error.what), (("common", "parts"), ("match", "tables")))
                    continue
                self.assertIs(is_answer(question, told), True)
                self.assertEqual(answer(led_question(rng, question))[0], told[0])
                answers.setdefault(word, set()).add(told[0])
        self.assertEqual(len(answers), 10)

    def test_told_ones(self):
        star, row = plain.star(3, 1), plain.row(3)
        unlike = ([("k", 0), ("a", 0), ("b", 0), ("c", 0)], [(0, 1, 1), (0, 2, 1), (0, 3, 1)], [(0, 1)], [])
        for question, expected in (
            (("alike", star, plain.star(3, -1)), "yes"), (("alike", unlike, mirror(unlike)), "no"), (("own mirror", star), "yes"),
            (("own mirror", unlike), "no"), (("own mirror", plain.alone(0)), "yes"), (("hand", star, 0), "no"), (("hand", unlike, 0), "yes"),
            (("led", row, 0, 2), "yes"), (("led", row, 0, 1), "no"), (("led", row, 1, 1), "yes"), (("symmetries", star, 3), "yes"),
            (("symmetries", star, 6), "no"), (("symmetries", plain.alone(24), symmetry_count(plain.alone(24))), "yes"),
            (("rings", row, []), "yes"), (("rings", row, [3]), "no"), (("rings", plain.ladder(3), [4, 4]), "yes"),
            (("joined", row, 0, 2), "yes"), (("joined", row, 1, 1), "yes"), (("joined", plain.alone(2), 0, 1), "no"),
            (("match", ([], [], [], []), plain.alone(0)), "yes"), (("match", ([ANY], [], [], []), plain.alone(0)), "no"),
            (("common", row, star, True, 0), "yes"), (("common", row, plain.alone(0), True, 1), "no"), (("common", row, row, False, 24), "no"),
            (("common", plain.alone(3), plain.alone(3), True, 2), "no"), (("common", plain.alone(3), plain.alone(3), False, 3), "yes"),
            (("name", row, name(row)), "yes"), (("name", row, ""), "no"), (("name", plain.alone(0), ""), "yes"),
        ):
            self.assertEqual(answer(question)[0], expected, question)
            self.assertIs(is_answer(question, answer(question)), True)
            if question[1] != plain.alone(24):
                self.assertIs(plain_truth(question), expected == "yes")
        self.assertEqual(answer(("rings", plain.beside(plain.ring(3), plain.ring(4)), [4, 3]))[0], "no")

    def test_too_many_of_answers(self):
        free, nine = ([ANY] * 3, [], [], []), plain.alone(9)
        for question, what, limit in (
            (("match", free, plain.alone(16)), "tables", 3000), (("common", nine, nine, False, 0), "parts", 8),
            (("common", plain.alone(0), nine, True, 5), "parts", 8), (("common", *HARD, True, common_size(*HARD, True) + 1), "nodes", 4000),
        ):
            with self.assertRaises(TooMany) as caught:
                answer(question)
            self.assertEqual((caught.exception.what, caught.exception.limit), (what, limit))
        self.assertEqual(answer(("common", *HARD, True, common_size(*HARD, True)))[0], "yes")
        self.assertEqual(answer(("match", free, plain.alone(15)))[0], "yes")

        def too_many(web):
            raise TooMany("nodes", 130000)

        webs = [plain.cube([1, 1, -1, 1, 1, -1, 1, 1]), plain.star(3, 1), plain.row(3)]
        with mock.patch("webnames.answering.name_paper", too_many):
            for web in webs:
                for call in (lambda: answer(("name", web, "")), lambda: describe(web), lambda: kin_paper([web]),
                             lambda: unlike_papers(web, plain.ring(4))):
                    with self.assertRaises(TooMany) as caught:
                        call()
                    self.assertEqual((caught.exception.what, caught.exception.limit), ("nodes", 130000))
                # None for the others.
                for question in (("alike", web, mirror(web)), ("own mirror", web), ("led", web, 0, 1), ("symmetries", web, 1),
                                 ("rings", web, []), ("joined", web, 0, 2), ("alike", web, plain.ring(4))):
                    self.assertIs(is_answer(question, answer(question)), True)
            for web in webs[:2]:
                self.assertIs(is_answer(("hand", web, 0), answer(("hand", web, 0))), True)

    def test_unlike_papers_of_many_pieces(self):
        # No invariant is unlike, and hands are settled behind some choices only.
        whole = plain.all_tied(4)
        one, two = ((*whole[:2], list(enumerate(signs)), []) for signs in ((1, 1, 1, 1), (1, 1, 1, -1)))
        cube, other_cube = plain.cube([1] * 8), plain.cube([1] * 7 + [-1])
        kinds = set()
        for first, second in (([one, two], [one, one]), ([one, one, two], [one] * 3), ([cube, other_cube], [cube, cube]),
                              ([one] * 3 + [two], [one] * 4), ([cube, one], [cube, two]), ([cube] * 3, [cube, cube, other_cube])):
            web, other = plain.beside(*first), plain.beside(*second)
            self.assertIsNone(parted_by(web, other))
            told = compare(web, other)
            self.assertEqual(told[0], "no")
            self.assertIs(is_answer(("alike", web, other), told), True)
            kinds.add(told[1][0])
        self.assertEqual(kinds, {"apart", "names"})
        for web in (plain.beside(one, two), cube, plain.alone(0), plain.PETERSEN):
            self.assertTrue(same_kinds(endless_paper(web), name_paper(web)))


class PlainTruth(unittest.TestCase):
    def test_too_many(self):
        eight, five = plain.ring(8), plain.ring(5)
        cube = plain.cube([1] * 8)
        lines = plain.beside(*[plain.all_tied(5)] * 4)
        for question, what, limit in (
            (("alike", eight, five), "parts", 7), (("alike", five, eight), "parts", 7), (("own mirror", eight), "parts", 7),
            (("hand", cube, 0), "parts", 7), (("led", eight, 0, 0), "parts", 7), (("symmetries", eight, 16), "parts", 7),
            (("name", plain.alone(8), ""), "leaves", 5040), (("match", ([ANY] * 4, [], [], []), plain.alone(11)), "lists", 5040),
            (("common", five, plain.alone(0), True, 0), "parts", 4), (("rings", ring_lattice(), []), "rings", 500),
        ):
            with self.assertRaises(TooMany) as caught:
                plain_truth(question)
            self.assertEqual((caught.exception.what, caught.exception.limit), (what, limit), question[0])
        # "joined" has no bound, the others none below theirs.
        self.assertIs(plain_truth(("joined", plain.ring(24), 0, 23)), True)
        self.assertIs(plain_truth(("joined", lines, 0, 19)), False)
        self.assertIs(plain_truth(("rings", plain.ring(24), [24])), True)
        self.assertIs(plain_truth(("name", plain.alone(7), name(plain.alone(7)))), True)
        self.assertIs(plain_truth(("match", ([ANY] * 4, [], [], []), plain.alone(10))), True)


def ring_lattice():
    """A web with more than 500 rings."""
    return ([K] * 16, sorted((a, b, 1) for a in range(16) for b in range(a + 1, 16) if bin(a ^ b).count("1") == 1), [], [])


class Unlike(unittest.TestCase):
    def test_lists_of_papers(self):
        rng = random.Random(614)
        kinds = set()
        webs = [web for web in plain.SHAPES + some_webs(615, 30, 6) if len(web[0]) <= 8]
        for web in webs:
            p = some_numbering(rng, len(web[0]))
            for other in (renumbered(with_other_signs(rng, web), p), rng.choice(webs), renumbered(web, p)):
                papers = unlike_papers(web, other)
                if is_alike(web, other):
                    self.assertEqual(papers, [])
                    self.assertIs(is_pairing(web, other, compare(web, other)[1]), True)
                    continue
                self.assertTrue(all(is_unlike_paper(web, other, paper) for paper in papers))
                words = [word for word in WORDS if is_unlike_paper(web, other, ("word", word))]
                self.assertEqual(papers[:-2], [("word", word) for word in words])
                self.assertEqual([paper[0] for paper in papers[-2:]], ["apart", "names"])
                self.assertEqual(words[0] if words else None, parted_by(web, other))
                self.assertEqual(compare(web, other)[0], "no")
                self.assertIs(is_unlike_paper(web, other, compare(web, other)[1]), True)
                kinds.add(len(words))
        self.assertTrue(0 in kinds and len(kinds) > 4, kinds)

    def test_compare(self):
        for question in some_questions(616, 5, 12):
            if question[0] == "alike":
                self.assertTrue(same_kinds(compare(*question[1:]), answer(question)))


class Descriptions(unittest.TestCase):
    def test_alike_webs_tell_the_same(self):
        rng = random.Random(617)
        told = {}
        for web in plain.SHAPES + some_webs(618, 30, 14):
            first = describe(web)
            self.assertIs(is_description(web, first), True)
            far = renumbered(web, some_numbering(rng, len(web[0])))
            second = describe(far)
            self.assertIs(is_description(far, second), True)
            self.assertTrue(same_kinds(told_by(first), told_by(second)))
            mirrored = first_pairing(web, mirror(web)) is not None
            self.assertTrue(same_kinds(told_by(first), (quick_name(web), symmetry_count(web), told_lengths(web), mirrored)))
            told.setdefault(told_by(first)[0], []).append(told_by(first))
        self.assertTrue(all(row[0] == other for row in told.values() for other in row))
        self.assertEqual(told_by(describe(plain.alone(0))), ("", 1, [], True))


class Kin(unittest.TestCase):
    def test_lists(self):
        rng = random.Random(619)
        sizes = set()
        webs = [web for web in plain.SHAPES if len(web[0]) <= 12]
        for many in list(range(13)) * 2:
            few = rng.sample(webs, 4)
            few += [mirror(web) for web in few] + [with_other_signs(rng, web) for web in few]
            some = [renumbered(web, some_numbering(rng, len(web[0]))) for web in (rng.choice(few) for _ in range(many))]
            paper = kin_paper(some)
            self.assertIs(is_kin_paper(some, paper), True)
            expected = []
            for place, web in enumerate(some):
                here = [row for row in expected if quick_name(some[row[0]]) == quick_name(web)]
                here[0].append(place) if here else expected.append([place])
            self.assertTrue(same_kinds(kin_lists(paper), expected))
            sizes |= {len(row) for row in expected}
        self.assertTrue({1, 2, 3} <= sizes, sizes)
        self.assertEqual((kin_paper([]), kin_lists([])), ([], []))

    def test_lists_by_any_paper(self):
        row = plain.row(3)
        webs = [row, plain.ring(3), renumbered(row, [1, 0, 2]), plain.ring(3), row]
        paper = kin_paper(webs)
        self.assertEqual(kin_lists(paper), [[0, 2, 4], [1, 3]])
        turned = [*paper[:4], ("like", 0, [2, 1, 0])]
        self.assertIs(is_kin_paper(webs, turned), True)
        self.assertEqual(kin_lists(turned), [[0, 2, 4], [1, 3]])


if __name__ == "__main__":
    unittest.main()
