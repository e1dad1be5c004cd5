"""webnames.words: tokens [41] and the names of parts [42]."""

import random
import re
import unittest

from tests.helper import ANY_VALUES, NOT_COUNTS
from webnames.errors import InvalidMany
from webnames.words import is_part_name, own_names, tokens

SIGNS = "".join(chr(k) for k in range(32, 127) if chr(k) != "%")


def plain_tokens(text):
    """The tokens, by a pattern for words and single characters."""
    found = []
    for row, line in enumerate(text.split("\n"), 1):
        told = line[:line.index("#")] if "#" in line else line
        found += [(row, m.start(), m.group()) for m in re.finditer("[a-z0-9]+|[^ ]", told)]
        found.append((row, len(line), ";"))
    return found


class PartNames(unittest.TestCase):
    def test_names(self):
        for value in ("a", "z9", "p0", "abcdefgh", "a1234567", "hands", "sid", "handside", "side1", "x"):
            self.assertIs(is_part_name(value), True)
        for value in ("", "hand", "side", "1a", "9", "abcdefghi", "A", "aB", "a_b", "a b", " a", "a ", "a-1", "a;",
                      b"a", None, True, ["a"], ("a",), 1):
            self.assertIs(is_part_name(value), False)

    def test_each_character(self):
        for sign in SIGNS + "\n":
            self.assertIs(is_part_name(sign), "a" <= sign <= "z")
            self.assertIs(is_part_name("a" + sign), "a" <= sign <= "z" or "0" <= sign <= "9")

    def test_any_value(self):
        for value in ANY_VALUES:
            self.assertIs(is_part_name(value), isinstance(value, str) and value in ("a", "k"))

    def test_own_names(self):
        self.assertEqual(own_names(0), [])
        self.assertEqual(own_names(24), [f"p{k}" for k in range(24)])
        for many in NOT_COUNTS + [25]:
            with self.assertRaises(InvalidMany):
                own_names(many)


class Tokens(unittest.TestCase):
    def test_ends(self):
        self.assertEqual(tokens(""), [(1, 0, ";")])
        self.assertEqual(tokens("   "), [(1, 3, ";")])
        self.assertEqual(tokens("\n"), [(1, 0, ";"), (2, 0, ";")])
        self.assertEqual(tokens(";"), [(1, 0, ";"), (1, 1, ";")])
        self.assertEqual(tokens("a\n"), [(1, 0, "a"), (1, 1, ";"), (2, 0, ";")])
        self.assertEqual(tokens("#"), [(1, 1, ";")])
        self.assertEqual(tokens("# a;b\n#"), [(1, 5, ";"), (2, 1, ";")])

    def test_words(self):
        self.assertEqual(tokens("a1b2c3d4e5 9x"), [(1, 0, "a1b2c3d4e5"), (1, 11, "9x"), (1, 13, ";")])
        self.assertEqual(tokens("ab#cd"), [(1, 0, "ab"), (1, 5, ";")])
        self.assertEqual(tokens("--+:Ab_"), [(1, 0, "-"), (1, 1, "-"), (1, 2, "+"), (1, 3, ":"), (1, 4, "A"), (1, 5, "b"),
                                             (1, 6, "_"), (1, 7, ";")])
        self.assertEqual(tokens(" a:k-3; b"), [(1, 1, "a"), (1, 2, ":"), (1, 3, "k"), (1, 4, "-"), (1, 5, "3"),
                                               (1, 6, ";"), (1, 8, "b"), (1, 9, ";")])

    def test_some_texts(self):
        rng = random.Random(130)
        for _ in range(300):
            text = "".join(rng.choice(["a", "b1", " ", "\n", "#", ";", rng.choice(SIGNS)]) for _ in range(rng.randrange(40)))
            self.assertEqual(tokens(text), plain_tokens(text))
        self.assertEqual(tokens(SIGNS), plain_tokens(SIGNS))
        self.assertEqual(len(tokens("; " * 4000)), 4001)


if __name__ == "__main__":
    unittest.main()
