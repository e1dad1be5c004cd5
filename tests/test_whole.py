"""What the document promises over the whole program [4]: webs written, read, renumbered, named, kept, changed, asked about."""

import random
import unittest

from tests import plain
from tests.helper import same_kinds, some_numbering, some_webs
from tests.test_deeds import plain_can, some_deed
from tests.test_pairings import with_other_signs
from webnames.answering import answer, compare, describe, kin_lists, kin_paper, told_by, unlike_papers
from webnames.bounds import common_size, distance_between
from webnames.centres import is_tree_shaped
from webnames.deeds import done, numbering_behind, renumbered_deed, row_between
from webnames.desk import Desk
from webnames.families import family
from webnames.handed import is_own_mirror, seats
from webnames.judging import is_answer, is_description, is_kin_paper, is_unlike_paper
from webnames.keeper import Keeper
from webnames.least import match_classes
from webnames.leastforms import least_by_parts, parted_by
from webnames.library import Library
from webnames.matching import matches
from webnames.mirrors import bare, mirror
from webnames.namepapers import is_name_paper, name_paper
from webnames.numberings import is_pairing, renumbered
from webnames.pairings import by_colours, first_pairing
from webnames.patterns import pattern_of
from webnames.pieces import piece_web, pieces, put_together
from webnames.reader import read_web
from webnames.rules import results
from webnames.search import quick_form, quick_name, quick_pairing
from webnames.settings import setting_count, settings
from webnames.symmetric import all_symmetries, symmetry_count
from webnames.treecodes import tree_symmetry_count
from webnames.treenames import read_tree_name, tree_name, tree_pairing
from webnames.writer import name_text, read_name, write_web

K = plain.K


def written_anyhow(rng, web):
    """The web written with names of its own, its statements in another sequence, told with remarks, and read."""
    names = rng.sample([f"{letter}{k}" for letter in "axz" for k in range(12)], len(web[0]))
    rows = write_web(web, names).split("\n") if web[0] else []
    rng.shuffle(rows)
    return read_web(rng.choice(["\n", " ; ", "# a remark\n"]).join(rows))[0]


def webs_and_others(seed, many=24, most=12):
    """Webs, each with one that is alike, written and renumbered, and with one of other signs."""
    rng = random.Random(seed)
    found = []
    for web in plain.SHAPES + some_webs(seed, many, most):
        alike = written_anyhow(rng, renumbered(web, some_numbering(rng, len(web[0]))))
        other = written_anyhow(rng, renumbered(with_other_signs(rng, web), some_numbering(rng, len(web[0]))))
        found.append((web, alike, other))
    return found


class OneName(unittest.TestCase):
    def test_likeness_told_in_every_way(self):
        answers = set()
        for web, alike, other in webs_and_others(700):
            for far in (alike, other):
                told = quick_name(web) == quick_name(far)
                self.assertTrue(told or far is other)
                self.assertIs(first_pairing(web, far) is not None, told)
                self.assertIs(quick_pairing(web, far) is not None, told)
                self.assertEqual(compare(web, far)[0], "yes" if told else "no")
                self.assertIs(unlike_papers(web, far) == [], told)
                self.assertTrue(not told or parted_by(web, far) is None)
                self.assertEqual(len(kin_lists(kin_paper([web, far]))), 1 if told else 2)
                self.assertIs(told_by(describe(web))[0] == told_by(describe(far))[0], told)
                shelf = Library()
                shelf.add(web, "a")
                self.assertEqual(shelf.add(far, "b"), ["a"] if told else [])
                if is_tree_shaped(web):
                    self.assertIs(tree_name(web) == tree_name(far), told)
                    self.assertIs(tree_pairing(web, far) is not None, told)
                if len(web[0]) <= 8 and len(web[0]) > 0:
                    try:
                        self.assertEqual(matches(pattern_of(web), far), by_colours(web, far))
                    except ArithmeticError:
                        pass
                if len(web[0]) <= 8:
                    self.assertEqual(distance_between(web, far), 0)
                answers.add(told)
        self.assertEqual(answers, {True, False})

    def test_names_read_are_alike(self):
        for web, alike, _ in webs_and_others(701):
            name = quick_name(alike)
            there = read_name(name)
            self.assertEqual(quick_name(there), name)
            self.assertTrue(same_kinds(there, quick_form(web)))
            self.assertIs(is_pairing(web, there, quick_pairing(web, there)), True)
            if is_tree_shaped(web):
                self.assertEqual(quick_name(read_tree_name(tree_name(web))), name)

    def test_pieces_on_a_desk_and_in_a_keeper(self):
        rng = random.Random(702)
        for web, alike, _ in webs_and_others(703, 16):
            keeper = Keeper(alike)
            whole = put_together([piece_web(web, piece) for piece in pieces(web)])
            self.assertEqual(quick_name(whole), keeper.name())
            self.assertEqual(keeper.piece_names(), sorted(quick_name(piece_web(web, piece)) for piece in pieces(web)))
            desk = Desk()
            desk.do(("new", "a", web))
            desk.do(("read", "b", write_web(alike, [f"q{k}" for k in range(len(alike[0]))])))
            self.assertEqual(desk.do(("note", "n", ("alike", "a", "b"))), "yes")
            desk.do(("form", "a"))
            desk.do(("renumber", "b", some_numbering(rng, len(web[0]))))
            self.assertIn(desk.status("n"), ("carried", "fresh"))
            self.assertEqual(name_text(desk.web("a")), keeper.name())


class Papers(unittest.TestCase):
    def test_a_paper_for_what_is_told(self):
        for web, alike, other in webs_and_others(704, 16, 9):
            self.assertIs(is_name_paper(alike, quick_form(web), name_paper(alike)), True)
            self.assertIs(is_description(alike, describe(alike)), True)
            for question, yes in (
                (("symmetries", alike, symmetry_count(web)), True), (("name", alike, quick_name(web)), True),
                (("own mirror", alike), is_own_mirror(web)), (("alike", web, alike), True), (("alike", alike, web), True),
                (("alike", web, other), quick_name(web) == quick_name(other)), (("alike", bare(web), bare(other)), True),
                (("alike", web, mirror(alike)), is_own_mirror(web)),
            ):
                told = answer(question)
                self.assertEqual(told[0], "yes" if yes else "no", question[0])
                self.assertIs(is_answer(question, told), True)
            for paper in unlike_papers(web, other):
                self.assertIs(is_unlike_paper(web, other, paper), True)
                self.assertIs(is_unlike_paper(web, alike, paper), False)

    def test_kin_of_many(self):
        rng = random.Random(705)
        webs = [far for row in rng.sample(webs_and_others(706, 12, 7), 4) for far in row]
        rng.shuffle(webs)
        paper = kin_paper(webs)
        self.assertIs(is_kin_paper(webs, paper), True)
        for row in kin_lists(paper):
            self.assertEqual(len({quick_name(webs[place]) for place in row}), 1)
        self.assertEqual(len(kin_lists(paper)), len({quick_name(web) for web in webs}))


class AllOfThem(unittest.TestCase):
    def test_symmetries_matches_and_settings(self):
        for web, alike, _ in webs_and_others(707, 20, 8):
            if symmetry_count(web) <= 720:
                self.assertEqual(len(all_symmetries(alike)), symmetry_count(web))
            if len(web[0]) <= 8 and symmetry_count(bare(web)) <= 720:
                try:
                    found = matches(pattern_of(web), alike)
                    self.assertEqual(len(found), symmetry_count(web))
                    self.assertEqual(len(match_classes(pattern_of(web), alike)), 1)
                except ArithmeticError:
                    pass
            if is_tree_shaped(web):
                self.assertEqual(tree_symmetry_count(alike), symmetry_count(web))
            if len(seats(web)) <= 5:
                self.assertEqual(len(settings(web)), setting_count(alike))

    def test_families_kept_and_asked_about(self):
        parts = [("c", 0), ("c", 0), ("c", 0), ("o", 0)]
        found = family(parts, [1], True)
        shelf = Library()
        for number, web in enumerate(found):
            self.assertEqual(shelf.add(web, f"w{number}"), [])
        self.assertEqual(len(shelf.classes()), len(found))
        rows = matches(pattern_of(plain.ring(3)), found[0])
        self.assertEqual(rows, [])
        ring = ([((), None)] * 3, plain_ring_ties(), [], [])
        for label, web in shelf.rows():
            self.assertIs(label in shelf.with_pattern(ring), bool(matches(ring, web)))
            self.assertEqual(least_by_parts(web)[0], sorted(parts))
        # Grown by a rule, one tie more: each result is of the family again.
        tie = (([((), None)] * 2, [], [], []), [("tie", 0, 1, 1)])
        names = {quick_name(web) for web in found}
        for web in found:
            self.assertTrue(set(results(web, tie)) <= names)


def plain_ring_ties():
    return [(0, 1, (1,)), (0, 2, (1,)), (1, 2, (1,))]


class Changed(unittest.TestCase):
    def test_deeds_at_alike_webs(self):
        rng = random.Random(708)
        for web, _, _ in webs_and_others(709, 16, 10):
            p = some_numbering(rng, len(web[0]))
            here, far = Keeper(web), Keeper(renumbered(web, p))
            desk = Desk()
            desk.do(("new", "a", web))
            for _ in range(15):
                deed = some_deed(rng, here.now)
                if not plain_can(here.now, deed):
                    continue
                there = renumbered_deed(deed, p)
                p = numbering_behind(deed, p)
                here.do(deed)
                far.do(there)
                desk.do(("change", "a", deed))
                self.assertEqual(far.now, renumbered(here.now, p))
                self.assertEqual(desk.web("a"), here.now)
                self.assertEqual(here.name(), far.name())
                self.assertEqual(here.piece_names(), far.piece_names())
            other = Keeper(web)
            for deed in row_between(web, far.now):
                other.do(deed)
            self.assertEqual((other.now, other.name()), (far.now, here.name()))
            for _ in range(len(here.deeds)):
                here.undo()
            self.assertEqual((here.now, here.first), (web, web))

    def test_a_statement_stays_for_alike_webs(self):
        rng = random.Random(710)
        desk = Desk()
        webs = [plain.star(3, 1), plain.double(-1), plain.ladder(3), plain.twins((1, -1))]
        for name, web in zip("abcd", webs):
            desk.do(("new", name, web))
        questions = [("alike", "a", "b"), ("own mirror", "d"), ("symmetries", "c", 4), ("rings", "c", [4, 4]), ("name", "a", quick_name(webs[0])),
                     ("match", pattern_of(plain.row(3)), "d"), ("common", "a", "b", True, 3)]
        for number, question in enumerate(questions):
            desk.do(("note", f"n{number}", question))
        for name, web in zip("abcd", webs):
            desk.do(("renumber", name, some_numbering(rng, len(web[0]))))
        for number, question in enumerate(questions):
            self.assertIn(desk.status(f"n{number}"), ("carried", "fresh"))
            self.assertEqual(desk.do(("ask", question))[0], desk.statement(f"n{number}"))
            self.assertEqual(desk.do(("renew", f"n{number}")), desk.statement(f"n{number}"))
            self.assertEqual(desk.status(f"n{number}"), "fresh")
        self.assertEqual(Desk.again(desk.log).log, desk.log)

    def test_a_deed_and_the_distance(self):
        # A part more or less is a distance of one; a kind or mark changed, of two at most.
        rng = random.Random(711)
        for web, _, _ in webs_and_others(712, 12, 7):
            if len(web[0]) > 7:
                continue
            for word, most in (("put", 1), ("drop", 1), ("kind", 2), ("mark", 2), ("tie", 2), ("untie", 2), ("order", 2), ("bare", 0), ("flat", 0)):
                deed = some_deed(rng, web, word)
                if plain_can(web, deed):
                    there = done(web, deed)
                    self.assertLessEqual(distance_between(web, there), most)
                    self.assertGreaterEqual(common_size(web, there, False), len(web[0]) - 1)


if __name__ == "__main__":
    unittest.main()
