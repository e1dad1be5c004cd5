"""webnames.judging: questions [161], and the judges of answers, unlike papers [162], descriptions [163], kin papers [164]."""

import random
import unittest

from tests import plain
from tests.helper import ANY_VALUES, changed_once, same_kinds, some_numbering, some_web, some_webs
from tests.test_common import plain_is_common
from tests.test_commonpapers import plain_judge
from tests.test_levels import plain_tree
from tests.test_namepapers import plain_fault
from tests.test_nomatch import plain_judge as plain_no_match
from tests.test_pairings import with_other_signs
from tests.test_patterns import pattern_in, plain_candidates, plain_is_match, plain_is_pattern
from webnames.answering import answer, describe, kin_paper, unlike_papers
from webnames.bases import is_base_paper
from webnames.judging import (
    is_answer, is_description, is_kin_paper, is_no_paper, is_question, is_unlike_paper, is_yes_paper,
)
from webnames.leastforms import WORDS, invariants
from webnames.mirrors import mirror, turned_hand
from webnames.names import form, name
from webnames.numberings import is_pairing, renumbered
from webnames.search import quick_name
from webnames.sympapers import is_symmetry_paper, paper_count
from webnames.ways import is_way
from webnames.webs import is_web
from webnames.writer import is_name_text, name_text, read_name

K = plain.K
WORDS_OF_QUESTIONS = ("alike", "name", "own mirror", "hand", "led", "symmetries", "rings", "joined", "match", "common")


def plain_is_question(value):
    """Whether any value is a question, by the table of [161]."""
    if type(value) is not tuple or len(value) < 2 or type(value[0]) is not str:
        return False

    def count(x, most=10 ** 40):
        return type(x) is int and 0 <= x <= most

    word, rest = value[0], value[1:]
    if word == "match":
        return len(rest) == 2 and plain_is_pattern(rest[0]) and is_web(rest[1])
    if not is_web(rest[0]):
        return False
    many = len(rest[0][0])
    if word == "own mirror":
        return len(rest) == 1
    if word == "alike":
        return len(rest) == 2 and is_web(rest[1])
    if word == "name":
        return len(rest) == 2 and type(rest[1]) is str
    if word == "hand":
        return len(rest) == 2 and type(rest[1]) is int and rest[1] in [a for a, _ in rest[0][2]]
    if word in ("led", "joined"):
        return len(rest) == 3 and count(rest[1], many - 1) and count(rest[2], many - 1)
    if word == "symmetries":
        return len(rest) == 2 and count(rest[1])
    if word == "rings":
        return len(rest) == 2 and type(rest[1]) is list and all(count(x) for x in rest[1])
    if word == "common":
        return len(rest) == 4 and is_web(rest[1]) and type(rest[2]) is bool and count(rest[3], 24)
    return False


def plain_is_unlike(web, other, value):
    """Whether any value is an unlike paper, by the words of [162]."""
    if type(value) is not tuple or not value or type(value[0]) is not str:
        return False
    if value[0] == "word" and len(value) == 2:
        if type(value[1]) is not str or value[1] not in WORDS:
            return False
        place = WORDS.index(value[1])
        return invariants(web)[place] != invariants(other)[place]
    if value[0] == "apart" and len(value) == 2:
        tree = plain_tree(web, [], other, [])
        return tree is not None and same_kinds(value[1], tree)
    if value[0] == "names" and len(value) == 5:
        if plain_fault(web, [], value[1], value[2]) is not None or plain_fault(other, [], value[3], value[4]) is not None:
            return False
        return value[1] != value[3]
    return False


def plain_paper(question, value, yes):
    """Whether any value is a paper for yes, or for no, by the table of [161]."""
    word, web = question[:2]
    if word in ("alike", "own mirror", "hand"):
        other = question[2] if word == "alike" else mirror(web) if word == "own mirror" else turned_hand(web, question[2])
        return is_pairing(web, other, value) if yes == (word != "hand") else plain_is_unlike(web, other, value)
    if word == "name":
        if yes:
            return is_name_text(question[2]) and plain_fault(web, [], read_name(question[2]), value) is None
        if type(value) is not tuple or len(value) != 2 or plain_fault(web, [], value[0], value[1]) is not None:
            return False
        return name_text(value[0]) != question[2]
    if word == "led":
        if yes:
            return is_pairing(web, web, value) and value[question[2]] == question[3]
        tree = plain_tree(web, [question[2]], web, [question[3]])
        return tree is not None and same_kinds(value, tree)
    if word == "symmetries":
        return is_symmetry_paper(web, value) and (paper_count(value) == question[2]) == yes
    if word == "rings":
        return is_base_paper(web, value) and (sorted(len(ring) for ring, _ in value) == question[2]) == yes
    if word == "joined":
        if yes:
            return is_way(web, value) and value[0] == question[2] and value[-1] == question[3]
        if type(value) is not list or not all(type(x) is int and 0 <= x < len(web[0]) for x in value):
            return False
        if value != sorted(set(value)) or question[2] not in value or question[3] in value:
            return False
        return not any((a in value) != (b in value) for a, b, _ in web[1])
    if word == "match":
        if yes:
            return plain_is_match(web, question[2], value)
        return plain_no_match(web, question[2], plain_candidates(web, question[2]), value)
    other, joined, many = question[2:]
    if yes:
        return plain_is_common(web, other, joined, value) and len(value) >= many
    return many > 0 and plain_judge(web, other, joined, many - 1, value)


def some_question(rng, web, word):
    """A question with this word about the web; yes and no come about as often."""
    many = len(web[0])
    p = some_numbering(rng, many)
    other = renumbered(rng.choice([web, web, with_other_signs(rng, web), mirror(web), some_web(rng, many, len(web[1]), ("a",))]), p)
    if word == "alike":
        return ("alike", web, other)
    if word == "name":
        return ("name", web, rng.choice([quick_name(web), quick_name(web), name_text(web), quick_name(other), "", "p0: c; x"]))
    if word == "own mirror":
        return ("own mirror", web)
    if word == "hand":
        return ("hand", web, rng.choice(web[2])[0]) if web[2] else None
    if word == "symmetries":
        return ("symmetries", web, rng.choice([1, 2, 0, 6, len(plain.pairings(web, web)) if many < 7 else 1]))
    if word == "rings":
        lengths = sorted(rng.choice([3, 4]) for _ in range(max(len(web[1]) - many + 1, 0)))
        return ("rings", web, rng.choice([lengths, told_lengths(web), lengths[::-1] + [0]]))
    if word == "match":
        return ("match", pattern_in(rng, rng.choice([web, other]), rng.randrange(4)), web)
    if word == "common":
        return ("common", web, other, rng.random() < 0.5, rng.randrange(min(many + 2, 24)))
    return (word, web, rng.randrange(many), rng.randrange(many)) if many else None


def told_lengths(web):
    return sorted(len(ring) for ring, _ in answer(("rings", web, []))[1])


def some_questions(seed, most=6, many=30):
    rng = random.Random(seed)
    webs = [web for web in plain.SHAPES if len(web[0]) <= most] + [web for web in some_webs(seed, many, most)]
    found = [some_question(rng, web, word) for web in webs for word in WORDS_OF_QUESTIONS]
    return [question for question in found if question is not None]


class Questions(unittest.TestCase):
    def test_are_questions(self):
        rng = random.Random(590)
        answers = {}
        for question in some_questions(591):
            self.assertIs(is_question(question), True)
            changed = changed_once(question)
            for value in rng.sample(changed, min(len(changed), 12)):
                expected = plain_is_question(value)
                self.assertIs(is_question(value), expected, value)
                answers.setdefault(question[0], set()).add(expected)
        self.assertEqual(set(answers), set(WORDS_OF_QUESTIONS))
        self.assertTrue(all(len(told) == 2 for told in answers.values()), answers)

    def test_edges(self):
        web, star, pair = plain.row(2), plain.star(3, 1), ([((), None)] * 2, [], [], [])
        right = [
            ("alike", web, plain.alone(0)), ("name", web, ""), ("name", plain.alone(0), "x" * 8000), ("own mirror", plain.alone(0)),
            ("hand", star, 0), ("led", web, 0, 0), ("led", web, 1, 0), ("symmetries", web, 0), ("symmetries", web, 10 ** 29),
            ("rings", web, []), ("rings", web, [7, 0, 10 ** 20]), ("joined", web, 1, 1), ("match", pair, web), ("match", ([], [], [], []), web),
            ("common", web, star, True, 0), ("common", web, star, False, 24),
        ]
        wrong = [
            ("alike", web), ("alike", web, web, web), ("alike", web, None), ("name", web, None), ("name", web, b"a"), ("own mirror",),
            ("own mirror", web, web), ("own mirror", None), ("hand", star, 1), ("hand", star, False), ("hand", web, 0), ("hand", star, 4),
            ("led", web, 0, 2), ("led", web, -1, 0), ("led", web, True, 0), ("led", web, 0), ("symmetries", web, -1),
            ("symmetries", web, True), ("symmetries", web, None), ("rings", web, (3,)), ("rings", web, [-1]), ("rings", web, [True]),
            ("rings", web, None), ("joined", web, 0, 2), ("joined", plain.alone(0), 0, 0), ("match", web, pair), ("match", web, web),
            ("match", pair, None), ("match", pair), ("common", web, star, 1, 0), ("common", web, star, True, 25),
            ("common", web, star, True, -1), ("common", web, star, True, True), ("common", web, star, 0), ("common", web, star, None, 0),
            ["own mirror", web], ("Alike", web, web), (None, web), ([], web), ("own", web), ("alike",), (), ("own mirror", list(web)),
        ]
        for value in right:
            self.assertIs(is_question(value), True, value)
        for value in wrong + ANY_VALUES:
            self.assertIs(is_question(value), False, value)


class Papers(unittest.TestCase):
    def test_answers_changed_in_one_thing(self):
        rng = random.Random(592)
        answers = {}
        for question in some_questions(593, 5, 24):
            told = answer(question)
            yes = told[0] == "yes"
            self.assertIs(is_answer(question, told), True)
            papers = [told[1]] + rng.sample(changed_once(told[1]), min(8, len(changed_once(told[1]))))
            for value in papers:
                for word, judge in (("yes", is_yes_paper), ("no", is_no_paper)):
                    expected = plain_paper(question, value, word == "yes")
                    self.assertIs(judge(question, value), expected, (question, word, value))
                    self.assertIs(is_answer(question, (word, value)), expected)
                    answers.setdefault((question[0], word), set()).add(expected)
                    self.assertFalse(expected and (word == "yes") != yes)
        self.assertEqual(len(answers), 20)
        self.assertTrue(all(len(told) == 2 for told in answers.values()), answers)

    def test_never_both(self):
        # Papers of one question, and of questions with other words, are taken for no other answer.
        rng = random.Random(594)
        questions = some_questions(595, 4, 20)
        papers = [answer(question) for question in questions]
        taken = 0
        for question, told in zip(questions, papers):
            for other in rng.sample(papers, 25):
                for word, judge in (("yes", is_yes_paper), ("no", is_no_paper)):
                    found = judge(question, other[1])
                    self.assertFalse(found and word != told[0])
                    taken += found
        self.assertGreater(taken, 50)

    def test_any_values(self):
        for question in some_questions(596, 4, 12):
            for value in ANY_VALUES + [("yes",), ("no",), ("yes", None), ("no", None), ["yes", []], ("maybe", []), ("yes", [], [])]:
                for judge in (is_yes_paper, is_no_paper):
                    expected = plain_paper(question, value, judge is is_yes_paper)
                    self.assertIs(judge(question, value), expected, (question, value))
                inner = type(value) is tuple and len(value) == 2 and value[0] in ("yes", "no")
                inner = inner and plain_paper(question, value[1], value[0] == "yes")
                self.assertIs(is_answer(question, value), inner)

    def test_papers_at_edges(self):
        row, two = plain.row(3), plain.beside(plain.row(2), plain.row(1))
        # A way may be a longer one, a list of parts may have several pieces.
        ring = plain.ring(5)
        for value, expected in (([0, 1, 2], True), ([0, 4, 3, 2], True), ([0, 2], False), ([2, 1, 0], False), ([0, 1], False), ([], False)):
            self.assertIs(is_yes_paper(("joined", ring, 0, 2), value), expected)
        self.assertIs(is_yes_paper(("joined", ring, 3, 3), [3]), True)
        self.assertIs(is_no_paper(("joined", ring, 3, 3), [3]), False)
        for value, expected in (([0, 1], True), ([0], False), ([1, 0], False), ([0, 1, 2], False), ([0, 1, 1], False), ((0, 1), False), ([1], False)):
            self.assertIs(is_no_paper(("joined", two, 0, 2), value), expected)
        self.assertIs(is_no_paper(("joined", plain.alone(4), 0, 3), [0, 2]), True)
        self.assertIs(is_yes_paper(("joined", two, 0, 2), [0, 2]), False)
        # Lengths told otherwise than sorted are wrong lengths.
        paper = answer(("rings", plain.ladder(3), [4, 4]))[1]
        self.assertIs(is_yes_paper(("rings", plain.ladder(3), [4, 4]), paper), True)
        self.assertIs(is_no_paper(("rings", plain.ladder(3), [4]), paper), True)
        both = plain.beside(plain.ring(3), plain.ring(4))
        paper = answer(("rings", both, []))[1]
        self.assertEqual([is_yes_paper(("rings", both, lengths), paper) for lengths in ([3, 4], [4, 3])], [True, False])
        self.assertEqual([is_no_paper(("rings", both, lengths), paper) for lengths in ([3, 4], [4, 3])], [False, True])
        # The rings of a paper may stand in any sequence that is right.
        self.assertIs(is_yes_paper(("rings", both, [3, 4]), paper[::-1]), True)
        self.assertIs(is_no_paper(("rings", both, [3, 4]), paper[::-1]), False)
        # No list has none pairs or more by a tree.
        self.assertIs(is_no_paper(("common", row, plain.alone(0), False, 0), ("bound",)), False)
        self.assertIs(is_no_paper(("common", row, plain.alone(0), False, 1), ("bound",)), True)
        self.assertIs(is_yes_paper(("common", row, plain.alone(0), True, 0), []), True)
        # A name text that is not the name; a string that is none.
        hand = plain.star(3, 1)
        told = form(hand)
        paper = answer(("name", hand, name(hand)))[1]
        other = next(web for web in (renumbered(hand, [3, 0, 1, 2]), renumbered(hand, [1, 0, 2, 3])) if name_text(web) != name(hand))
        for text in (name_text(other), "", "x", name(hand) + " ", name(plain.row(2))):
            self.assertIs(is_yes_paper(("name", hand, text), paper), False)
            self.assertIs(is_no_paper(("name", hand, text), (told, paper)), True)
            self.assertIs(is_no_paper(("name", hand, text), (other, paper)), False)
        self.assertIs(is_no_paper(("name", hand, name(hand)), (told, paper)), False)


class Unlike(unittest.TestCase):
    def test_each_kind(self):
        rng = random.Random(597)
        kinds, answers = {}, []
        webs = [web for web in plain.SHAPES + some_webs(598, 30, 6) if len(web[0]) <= 6]
        for web in webs:
            p = some_numbering(rng, len(web[0]))
            for other in (renumbered(with_other_signs(rng, web), p), rng.choice(webs), renumbered(web, p)):
                papers = unlike_papers(web, other)
                values = papers + [("word", word) for word in WORDS]
                for paper in papers:
                    self.assertIs(is_unlike_paper(web, other, paper), True)
                    values += rng.sample(changed_once(paper), 4)
                    kinds[paper[0]] = kinds.get(paper[0], 0) + 1
                for value in values:
                    expected = plain_is_unlike(web, other, value)
                    self.assertIs(is_unlike_paper(web, other, value), expected)
                    answers.append(expected)
                    self.assertFalse(expected and is_pairing(web, other, p))
        self.assertEqual(set(kinds), {"word", "apart", "names"})
        self.assertGreater(answers.count(False), 300)

    def test_told_ones(self):
        web, other = plain.star(3, 1, ("a", 0)), plain.row(2)
        for value in ANY_VALUES + [("word",), ("word", None), ("word", "hand"), ("word", "parts", 1), ["word", "parts"], ("apart",),
                                   ("apart", None), ("apart", ("split", [])), ("names",), ("names", web, [], other, []), ("Word", "parts")]:
            self.assertIs(is_unlike_paper(web, other, value), False, value)
        for value in (("word", "parts"), ("word", "ties"), ("word", "hands"), ("word", "colours"), ("apart", ("view",))):
            self.assertIs(is_unlike_paper(web, other, value), True, value)
        self.assertIs(is_unlike_paper(web, other, ("word", "sides")), False)
        # Papers the other way round, and for the same web.
        papers = unlike_papers(web, other)
        turned = ("names", *papers[-1][3:], *papers[-1][1:3])
        self.assertEqual([is_unlike_paper(other, web, value) for value in (turned, papers[-1])], [True, False])
        self.assertIs(is_unlike_paper(web, web, ("names", *papers[-1][1:3], *papers[-1][1:3])), False)
        # Hands told by trees and names alone.
        unlike = ([("k", 0), ("a", 0), ("b", 0), ("c", 0)], [(0, 1, 1), (0, 2, 1), (0, 3, 1)], [(0, 1)], [])
        self.assertEqual([paper[0] for paper in unlike_papers(unlike, mirror(unlike))], ["apart", "names"])


class Described(unittest.TestCase):
    def test_changed_in_one_thing(self):
        rng = random.Random(599)
        answers = []
        for web in plain.SHAPES[:18] + some_webs(600, 20, 5):
            if len(web[0]) > 6:
                continue
            told = describe(web)
            self.assertIs(is_description(web, told), True)
            for value in rng.sample(changed_once(told), 12):
                expected = self.plain(web, value)
                self.assertIs(is_description(web, value), expected)
                answers.append(expected)
            other = rng.choice(plain.SHAPES[:14])
            self.assertIs(is_description(other, told), self.plain(other, told))
        self.assertGreater(answers.count(False), 200)

    def plain(self, web, value):
        if type(value) is not tuple or len(value) != 5 or type(value[0]) is not str or not is_name_text(value[0]):
            return False
        if plain_fault(web, [], read_name(value[0]), value[1]) is not None or not is_symmetry_paper(web, value[2]):
            return False
        told = value[4]
        if not is_base_paper(web, value[3]) or type(told) is not tuple or len(told) != 2 or told[0] not in ("yes", "no"):
            return False
        return plain_paper(("own mirror", web), told[1], told[0] == "yes")

    def test_any_values(self):
        web = plain.star(3, 1)
        told = describe(web)
        for value in ANY_VALUES + [list(told), told[:4], told + (None,)]:
            self.assertIs(is_description(web, value), False)
            for place in range(5):
                changed = (*told[:place], value, *told[place + 1:])
                if not same_kinds(value, told[place]):
                    self.assertIs(is_description(web, changed), False)


class Kin(unittest.TestCase):
    def plain(self, webs, value):
        if type(value) is not list or len(value) != len(webs):
            return False
        firsts = {}
        for place, row in enumerate(value):
            if type(row) is not tuple or len(row) != 3 or type(row[0]) is not str:
                return False
            if row[0] == "first":
                if plain_fault(webs[place], [], row[1], row[2]) is not None or any(row[1] == told for told in firsts.values()):
                    return False
                firsts[place] = row[1]
            elif row[0] != "like" or type(row[1]) is not int or row[1] not in firsts or not is_pairing(webs[row[1]], webs[place], row[2]):
                return False
        return True

    def test_changed_in_one_thing(self):
        rng = random.Random(601)
        answers = []
        for number in range(30):
            few = rng.sample([web for web in plain.SHAPES if len(web[0]) <= 4], 3)
            webs = [renumbered(web, some_numbering(rng, len(web[0]))) for web in (rng.choice(few) for _ in range(number % 6))]
            paper = kin_paper(webs)
            self.assertIs(is_kin_paper(webs, paper), True)
            changed = changed_once(paper)
            for value in rng.sample(changed, min(len(changed), 30)):
                expected = self.plain(webs, value)
                self.assertIs(is_kin_paper(webs, value), expected)
                answers.append(expected)
        self.assertGreater(answers.count(False), 300)

    def test_rows(self):
        row = plain.row(3)
        webs = [row, renumbered(row, [1, 0, 2]), renumbered(row, [0, 2, 1]), plain.ring(3)]
        paper = kin_paper(webs)
        self.assertEqual([told[0] for told in paper], ["first", "like", "like", "first"])
        first = kin_paper(webs[1:])[0]
        self.assertIs(is_kin_paper(webs, [paper[0], first, *paper[2:]]), False)
        # A place of a tuple "like" is none to tell, nor is one behind.
        step = next(p for p in plain.pairings(webs[1], webs[2]))
        self.assertIs(is_kin_paper(webs, [*paper[:2], ("like", 1, step), paper[3]]), False)
        self.assertIs(is_kin_paper(webs, [("like", 1, [1, 0, 2]), first, *paper[2:]]), False)
        self.assertIs(is_kin_paper(webs, [paper[0], ("like", False, paper[1][2]), *paper[2:]]), False)
        self.assertIs(is_kin_paper(webs, [*paper[:3], ("like", 0, paper[1][2])]), False)
        for value in ANY_VALUES + [paper[:3], paper + [paper[3]], tuple(paper)]:
            self.assertIs(is_kin_paper(webs, value), False)
            self.assertIs(is_kin_paper(webs, [value, *paper[1:]]), False)
            self.assertIs(is_kin_paper([], value), type(value) is list and value == [])


if __name__ == "__main__":
    unittest.main()
