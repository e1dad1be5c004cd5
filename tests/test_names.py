"""webnames.names: forms, names and pointed forms [8], [74], [75]."""

import random
import unittest

from tests import plain
from tests.helper import same_kinds, some_numbering, some_webs
from tests.test_fulltree import few_leaves
from tests.test_pairings import with_other_signs
from webnames.errors import TooMany
from webnames.names import (
    form, is_alike, is_form, name, numbering_to_form, pairing_by_forms, pointed_form, pointed_name,
)
from webnames.numberings import is_pairing, renumbered
from webnames.pairings import first_pairing
from webnames.reader import read_web
from webnames.webs import is_web
from webnames.writer import name_text


class Names(unittest.TestCase):
    def test_forms(self):
        rng = random.Random(240)
        for web in few_leaves(241):
            told = min(plain.leaf_key(web, leaf) for leaf, _ in plain.leaves(web, []))[1]
            self.assertTrue(same_kinds(form(web), told))
            self.assertEqual(name(web), name_text(told))
            self.assertTrue(is_web(form(web)))
            far = renumbered(web, some_numbering(rng, len(web[0])))
            self.assertEqual((form(far), name(far)), (form(web), name(web)))
            self.assertTrue(is_pairing(far, form(web), numbering_to_form(far)))
            self.assertIs(is_form(form(web)), True)
            self.assertIs(is_form(far), far == told)
            self.assertEqual(name(read_web(name(web))[0]), name(web))
            for path in plain.paths_of(rng, len(web[0]), (0, 1, 2)):
                pointed = min(plain.leaf_key(web, leaf) for leaf, _ in plain.leaves(web, path))[1]
                self.assertTrue(same_kinds(pointed_form(web, path), pointed))
                self.assertEqual(pointed_name(web, path), name_text(pointed))
        self.assertEqual((name(plain.alone(0)), form(plain.alone(0))), ("", plain.alone(0)))
        self.assertEqual(name(plain.row(2)), "p0: k; p1: k; p0 1 p1")

    def test_alike_and_unlike(self):
        rng = random.Random(242)
        webs = few_leaves(243, 200, 30)
        seen = set()
        for web in webs:
            p = some_numbering(rng, len(web[0]))
            for other in (renumbered(web, p), renumbered(with_other_signs(rng, web), p), rng.choice(webs)):
                expected = first_pairing(web, other) is not None
                self.assertIs(is_alike(web, other), expected)
                self.assertIs(name(web) == name(other), expected)
                found = pairing_by_forms(web, other)
                self.assertTrue(is_pairing(web, other, found) if expected else found is None)
                seen.add((expected, len(web[0]) == len(other[0])))
        self.assertEqual(len(seen), 3)

    def test_one_sign(self):
        unlike = [("c", 0), ("a", 0), ("b", 0), ("k", 0)]
        web, other = [(unlike, plain.star(3)[1], [(0, sign)], []) for sign in (1, -1)]
        self.assertIs(is_alike(web, other), False)
        self.assertIsNone(pairing_by_forms(web, other))
        self.assertIs(is_alike(plain.star(3, 1), plain.star(3, -1)), True)
        ends = (plain.K, ("b", 0), plain.K, ("b", 0))
        self.assertIs(is_alike(plain.double(1, ends), plain.double(-1, ends)), False)
        self.assertIs(is_alike(plain.double(1), plain.double(-1)), True)

    def test_pointed_forms_tell_symmetric_paths(self):
        rng = random.Random(244)
        seen = set()
        for web in few_leaves(245, 200, 30, 6):
            if 1 < len(web[0]) <= 6 and plain.target(plain.colouring_of(web, [])):
                symmetries = plain.pairings(web, web)
                cell = plain.target(plain.colouring_of(web, []))
                for _ in range(4):
                    a, b = rng.choice(cell), rng.choice(cell)
                    expected = any(p[a] == b for p in symmetries)
                    self.assertIs(pointed_form(web, [a]) == pointed_form(web, [b]), expected)
                    seen.add(expected)
        self.assertIn(True, seen)
        web = plain.beside(plain.ring(3), plain.ring(4))
        self.assertNotEqual(pointed_form(web, [0]), pointed_form(web, [3]))

    def test_too_many(self):
        for call in (lambda: form(plain.alone(8)), lambda: name(plain.alone(24)), lambda: pointed_form(plain.alone(24), [1]),
                     lambda: pointed_name(plain.alone(24), [1]), lambda: numbering_to_form(plain.alone(8)),
                     lambda: pairing_by_forms(plain.alone(8), plain.row(2)), lambda: is_form(plain.alone(8)),
                     lambda: pairing_by_forms(plain.row(2), plain.alone(8)), lambda: is_alike(plain.alone(8), plain.row(2)),
                     lambda: is_alike(plain.row(2), plain.alone(8))):
            with self.assertRaises(TooMany) as caught:
                call()
            self.assertEqual((caught.exception.what, caught.exception.limit), ("leaves", 5040))
        self.assertEqual(form(plain.alone(7)), plain.alone(7))
        self.assertEqual(pointed_form(plain.alone(24), list(range(17))), plain.alone(24))

    def test_drawn_webs(self):
        # Those with too many leaves too: whatever is answered is the same for the renumbered web.
        rng = random.Random(246)
        for web in some_webs(247, 30):
            far = renumbered(web, some_numbering(rng, len(web[0])))
            try:
                expected = name(web)
            except TooMany:
                self.assertRaises(TooMany, name, far)
                continue
            self.assertEqual(name(far), expected)


if __name__ == "__main__":
    unittest.main()
