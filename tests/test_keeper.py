"""webnames.keeper: long rows of deeds, undo and redo [144], and the names that are kept [145]."""

import random
import unittest
from unittest import mock

from tests import plain
from tests.helper import lists_in, same_kinds, some_webs
from tests.test_deeds import numbers_in, plain_can, plain_done, some_deed
from webnames.errors import CannotDo, MissingId, NothingToRedo, NothingToUndo, TooMany
from webnames.keeper import Keeper
from webnames.pieces import piece_web, pieces
from webnames.search import quick_name

K = plain.K


class PlainKeeper:
    """A keeper by the words of [144] and [145]; known are sets of ids."""

    def __init__(self, web):
        self.first, self.now, self.ids = web, web, list(range(len(web[0])))
        self.ever, self.known, self.stand, self.gone = len(web[0]), set(), [], []

    def pieces_in_ids(self):
        return [frozenset(self.ids[part] for part in piece) for piece in pieces(self.now)]

    def do(self, deed):
        before = (self.now, list(self.ids), set(self.known))
        touched = {one for part in numbers_in(deed) for one in self.piece_of(part)}
        self.now = plain_done(self.now, deed)
        if deed[0] == "put":
            self.ids.insert(deed[1], self.ever)
            self.ever += 1
        if deed[0] == "drop":
            self.ids.pop(deed[1])
        # What became of the touched pieces is touched, too, and a part just put is not known.
        self.known = {piece for piece in self.known if not piece & touched}
        self.stand.append((deed, before))
        self.gone = []

    def piece_of(self, part):
        return [piece for piece in self.pieces_in_ids() if self.ids[part] in piece][0]

    def undo(self):
        deed, before = self.stand.pop()
        self.gone.append((deed, (self.now, list(self.ids), set(self.known))))
        self.now, self.ids, self.known = before[0], list(before[1]), set(before[2])

    def redo(self):
        deed, behind = self.gone.pop()
        self.stand.append((deed, (self.now, list(self.ids), set(self.known))))
        self.now, self.ids, self.known = behind[0], list(behind[1]), set(behind[2])


class Keepers(unittest.TestCase):
    def check(self, keeper, other):
        self.assertTrue(same_kinds(keeper.first, other.first))
        self.assertTrue(same_kinds(keeper.now, other.now))
        self.assertTrue(same_kinds(keeper.ids, other.ids))
        self.assertTrue(same_kinds(keeper.deeds, [deed for deed, _ in other.stand]))
        self.assertTrue(same_kinds(keeper.pieces(), pieces(other.now)))
        known = [piece for piece, ids in zip(pieces(other.now), other.pieces_in_ids()) if ids in other.known]
        self.assertTrue(same_kinds(keeper.known(), known))

    def test_long_rows(self):
        rng = random.Random(540)
        words = {}
        webs = some_webs(541, 20, 14) + [plain.alone(5), plain.beside(*[plain.row(2)] * 4), plain.beside(plain.star(3, 1), plain.ring(3))]
        for web in webs:
            keeper, other = Keeper(web), PlainKeeper(web)
            for _ in range(60):
                word = rng.choice(["do"] * 4 + ["undo", "undo", "redo", "redo", "name", "name", "names", "whole", "id"])
                word = self.step(rng, keeper, other, word)
                words[word] = words.get(word, 0) + 1
                self.check(keeper, other)
            here = web
            for deed in keeper.deeds:
                here = plain_done(here, deed)
            self.assertEqual(here, keeper.now)
        self.assertEqual(len(words), 12, words)
        self.assertGreater(min(words.values()), 5, words)

    def step(self, rng, keeper, other, word):
        many = len(other.now[0])
        if word == "do":
            deed = some_deed(rng, other.now, rng.choice(["put", "drop", "tie", "tie", None, None]))
            if not plain_can(other.now, deed):
                with self.assertRaises(CannotDo) as caught:
                    keeper.do(deed)
                self.assertTrue(same_kinds(caught.exception.deed, deed))
                return "cannot do"
            self.assertIsNone(keeper.do(deed))
            other.do(deed)
        elif word in ("undo", "redo"):
            if not (other.stand if word == "undo" else other.gone):
                with self.assertRaises(NothingToUndo if word == "undo" else NothingToRedo):
                    keeper.undo() if word == "undo" else keeper.redo()
                return "nothing to " + word
            self.assertIsNone(keeper.undo() if word == "undo" else keeper.redo())
            other.undo() if word == "undo" else other.redo()
        elif word == "name" and many:
            part = rng.randrange(many)
            piece = [row for row in pieces(other.now) if part in row][0]
            self.assertEqual(keeper.piece_name(part), quick_name(piece_web(other.now, piece)))
            other.known.add(other.piece_of(part))
        elif word == "names":
            self.assertEqual(keeper.piece_names(), sorted(quick_name(piece_web(other.now, piece)) for piece in pieces(other.now)))
            other.known = other.known | set(other.pieces_in_ids())
        elif word == "whole":
            self.assertEqual(keeper.name(), quick_name(other.now))
        elif word == "id":
            given = rng.randrange(other.ever + 2)
            if given not in other.ids:
                with self.assertRaises(MissingId) as caught:
                    keeper.part_of(given)
                self.assertEqual(caught.exception.given, given)
                return "missing id"
            self.assertTrue(same_kinds(keeper.part_of(given), other.ids.index(given)))
        else:
            return "no part"
        return word

    def test_ids(self):
        keeper = Keeper(plain.row(2))
        keeper.do(("put", 0, "a", 0))
        self.assertEqual(keeper.ids, [2, 0, 1])
        keeper.undo()
        keeper.do(("put", 1, "a", 0))
        self.assertEqual(keeper.ids, [0, 3, 1])
        keeper.undo()
        keeper.redo()
        self.assertEqual((keeper.ids, keeper.part_of(3)), ([0, 3, 1], 1))
        keeper.do(("drop", 1))
        keeper.do(("put", 2, "b", 0))
        self.assertEqual(keeper.ids, [0, 1, 4])
        for given in (2, 3, 5, 99):
            with self.assertRaises(MissingId) as caught:
                keeper.part_of(given)
            self.assertEqual(caught.exception.given, given)
        keeper.undo()
        keeper.undo()
        self.assertEqual((keeper.part_of(3), keeper.ids), (1, [0, 3, 1]))

    def test_undo_brings_back_what_was_known(self):
        keeper = Keeper(plain.beside(plain.row(2), plain.row(3)))
        keeper.piece_name(0)
        keeper.do(("mark", 0, 1))
        self.assertEqual(keeper.known(), [])
        keeper.piece_name(3)
        keeper.undo()
        # As when the deed was done; the redo brings back what was known when it was undone.
        self.assertEqual(keeper.known(), [[0, 1]])
        keeper.piece_names()
        keeper.redo()
        self.assertEqual(keeper.known(), [[2, 3, 4]])
        keeper.undo()
        # As when it was redone last.
        self.assertEqual(keeper.known(), [[0, 1], [2, 3, 4]])
        keeper.do(("put", 0, "a", 0))
        self.assertEqual(keeper.known(), [[1, 2], [3, 4, 5]])
        keeper.do(("tie", 2, 3, 1))
        self.assertEqual(keeper.known(), [])
        keeper.do(("untie", 2, 3))
        self.assertEqual(keeper.known(), [])
        with self.assertRaises(NothingToRedo):
            keeper.redo()
        keeper.undo()
        keeper.undo()
        self.assertEqual(keeper.known(), [[1, 2], [3, 4, 5]])
        # The same kind again touches the piece all the same; the name of the whole makes nothing known.
        keeper.do(("kind", 1, "k"))
        keeper.name()
        self.assertEqual(keeper.known(), [[3, 4, 5]])
        self.assertEqual(keeper.piece_names(), ["p0: a", "p0: k; p1: k; p0 1 p1", "p0: k; p1: k; p2: k; p0 1 p2; p1 1 p2"])
        keeper.do(("drop", 4))
        self.assertEqual(keeper.known(), [[0], [1, 2]])

    def test_names_of_pieces_in_webs_changed(self):
        keeper = Keeper(plain.alone(0))
        self.assertEqual((keeper.piece_names(), keeper.known(), keeper.name(), keeper.pieces()), ([], [], "", []))
        for k in range(4):
            keeper.do(("put", k, "c" if k == 0 else "h", 0))
        for k in range(1, 4):
            keeper.do(("tie", 0, k, 1))
        names = set()
        for sign in (1, -1):
            keeper.do(("hand", 0, [2, 1, 3], sign))
            names.add(keeper.piece_name(3))
        self.assertEqual(len(names), 1)
        keeper.do(("kind", 1, "a"))
        keeper.do(("kind", 2, "b"))
        for sign in (1, -1):
            keeper.do(("hand", 0, [2, 1, 3], sign))
            names.add(keeper.piece_name(3))
        self.assertEqual(len(names), 3)

    def test_500_deeds_and_one_more(self):
        keeper = Keeper(plain.alone(1))
        for number in range(500):
            keeper.do(("mark", 0, number % 10))
        with self.assertRaises(TooMany) as caught:
            keeper.do(("mark", 0, 5))
        self.assertEqual((caught.exception.what, caught.exception.limit), ("deeds", 500))
        # Told behind what cannot be done.
        with self.assertRaises(CannotDo):
            keeper.do(("drop", 1))
        self.assertEqual((len(keeper.deeds), keeper.now[0]), (500, [("k", 9)]))
        keeper.undo()
        with self.assertRaises(CannotDo):
            keeper.do(("drop", 1))
        keeper.redo()
        self.assertEqual(len(keeper.deeds), 500)
        keeper.undo()
        keeper.do(("mark", 0, 0))
        with self.assertRaises(NothingToRedo):
            keeper.redo()
        with self.assertRaises(TooMany):
            keeper.do(("mark", 0, 5))
        for _ in range(500):
            keeper.undo()
        with self.assertRaises(NothingToUndo):
            keeper.undo()
        self.assertEqual(keeper.now, plain.alone(1))

    def test_an_error_changes_nothing(self):
        keeper = Keeper(plain.beside(plain.row(2), plain.row(3)))
        keeper.do(("mark", 0, 1))
        keeper.undo()
        keeper.piece_name(0)
        asked = []

        def some_name(web):
            asked.append(web)
            if len(asked) > 1:
                raise TooMany("nodes", 130000)
            return "name"

        keeper.do(("put", 0, "a", 0))
        with mock.patch("webnames.keeper.quick_name", some_name), self.assertRaises(TooMany):
            keeper.piece_names()
        self.assertEqual(len(asked), 2)
        self.assertEqual(keeper.known(), [[1, 2]])
        with self.assertRaises(CannotDo):
            keeper.do(("drop", 9))
        with mock.patch("webnames.keeper.quick_name", some_name), self.assertRaises(TooMany):
            keeper.piece_name(0)
        self.assertEqual(keeper.known(), [[1, 2]])
        # A kept name is not asked for again.
        with mock.patch("webnames.keeper.quick_name", some_name):
            self.assertEqual(keeper.piece_name(2), "p0: k; p1: k; p0 1 p1")
        keeper.undo()
        with self.assertRaises(CannotDo):
            keeper.do(("drop", 9))
        keeper.redo()
        self.assertEqual(keeper.deeds, [("put", 0, "a", 0)])

    def test_what_is_passed_and_returned_is_copied(self):
        web = tuple(list(rows) for rows in plain.star(3, 1))
        keeper = Keeper(web)
        deed = ("hand", 0, [3, 2, 1], 1)
        keeper.do(deed)
        keeper.piece_names()
        before = [keeper.first, keeper.now, keeper.deeds, keeper.ids, keeper.pieces(), keeper.piece_names(), keeper.known()]
        deed[2].clear()
        for rows in web:
            rows.clear()
        for told in [keeper.first, keeper.now, keeper.deeds, keeper.ids, keeper.pieces(), keeper.piece_names(), keeper.known()]:
            for row in lists_in(told):
                row.append("more")
        after = [keeper.first, keeper.now, keeper.deeds, keeper.ids, keeper.pieces(), keeper.piece_names(), keeper.known()]
        self.assertTrue(same_kinds(after, before))
        self.assertEqual(before[2], [("hand", 0, [3, 2, 1], 1)])
        keeper.undo()
        self.assertEqual(keeper.now, plain.star(3, 1))
        for attribute in ("first", "now", "deeds", "ids"):
            self.assertIsInstance(vars(Keeper)[attribute], property)


if __name__ == "__main__":
    unittest.main()
