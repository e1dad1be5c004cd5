"""webnames.writer: texts written [45], name texts [46], and what comes of reading them [47]."""

import random
import unittest

from tests.helper import ANY_VALUES, near, some_webs
from tests.test_reader import joined, some_names, written
from tests.test_webs import dense
from webnames.errors import BadName, BadText, TakenPart, TooMany, UnfitRow, UnknownPart
from webnames.reader import is_web_text, read_web
from webnames.writer import is_name_text, name_text, read_name, statement_texts, tidy_text, write_web

K = ("k", 0)


class Written(unittest.TestCase):
    def test_statements(self):
        parts = [("k", 0), ("hand", -9), ("a", 9), ("b", 0), ("c", -1)]
        web = (parts, [(0, 1, 4), (0, 2, 1), (0, 3, 3), (1, 4, 2)], [(0, -1)], [])
        self.assertEqual(statement_texts(web, ["m", "x", "y", "z", "w"]),
                         ["m: k", "x: hand -9", "y: a 9", "z: b", "w: c -1", "m 4 x", "m 1 y", "m 3 z", "x 2 w",
                          "m hand - x y z"])
        row = ([K] * 6, [(0, 2, 1), (1, 2, 1), (2, 3, 2), (3, 4, 1), (3, 5, 1)], [], [(2, 3, 1)])
        self.assertEqual(statement_texts(row, list("uvwxyz"))[-1], "w x side + u y")
        self.assertEqual(statement_texts(([], [], [], []), []), [])
        self.assertEqual(write_web(([], [], [], []), []), "")

    def test_written_and_read(self):
        rng = random.Random(140)
        for web in some_webs(141, 60):
            names = some_names(rng, len(web[0]))
            rows = statement_texts(web, names)
            beside = near(web)
            expected = [f"{name}: {kind}" + (f" {mark}" if mark else "") for name, (kind, mark) in zip(names, web[0])]
            expected += [f"{names[a]} {order} {names[b]}" for a, b, order in web[1]]
            for a, sign in web[2]:
                expected.append(" ".join([names[a], "hand", " +-"[sign]] + [names[x] for x in beside[a]]))
            for a, b, sign in web[3]:
                x, y = min(set(beside[a]) - {b}), min(set(beside[b]) - {a})
                expected.append(" ".join([names[a], names[b], "side", " +-"[sign], names[x], names[y]]))
            self.assertEqual(rows, expected)
            self.assertEqual(write_web(web, names), "\n".join(rows))
            self.assertEqual(read_web(write_web(web, names)), (web, names))

    def test_tidy_text(self):
        rng = random.Random(142)
        for web in some_webs(143):
            names = some_names(rng, len(web[0]))
            self.assertEqual(tidy_text(joined(rng, written(rng, web, names))), write_web(web, names))
        for text, error in (("a", BadText), ("a: k; a: k", TakenPart), ("a 1 b", UnknownPart),
                            ("a: k; a 1 a", UnfitRow), (";".join(f"p{k}: k" for k in range(25)), TooMany)):
            with self.assertRaises(error):
                tidy_text(text)


class NameTexts(unittest.TestCase):
    def test_name_text(self):
        for web in some_webs(144, 60):
            text = name_text(web)
            names = [f"p{k}" for k in range(len(web[0]))]
            self.assertEqual(text, "; ".join(statement_texts(web, names)))
            self.assertEqual(read_name(text), web)
            self.assertIs(is_name_text(text), True)
            self.assertIs(is_web_text(text), True)
        self.assertEqual(name_text(([], [], [], [])), "")
        self.assertEqual(read_name(""), ([], [], [], []))

    def test_unlike_webs(self):
        webs = some_webs(145, 60, 6)
        for web in webs:
            for other in webs:
                self.assertEqual(name_text(web) == name_text(other), web == other)

    def test_length(self):
        web = dense(48)
        parts = [("hand", -9)] * 24
        hands = [(part, 1) for part, row in near(web).items() if len(row) in (3, 4)]
        self.assertEqual(len(hands), 24)
        self.assertLessEqual(len(name_text((parts, web[1], hands, []))), 3500)
        self.assertIs(is_name_text(name_text((parts, web[1], hands, []))), True)

    def test_texts_changed_by_one_sign(self):
        web = ([("c", 0), ("n", -1), ("o", 9), ("hand", 0)], [(0, 1, 1), (0, 2, 1), (0, 3, 2)], [(0, -1)], [])
        flat = ([("c", 0)] * 4, [(0, 1, 1), (1, 2, 2), (2, 3, 1)], [], [(1, 2, -1)])
        for text in (name_text(web), name_text(flat)):
            for at in range(len(text) + 1):
                for sign in " ;:p0c1-+h\n#A":
                    for other in (text[:at] + sign + text[at:], text[:at] + sign + text[at + 1:], text[:at] + text[at + 1:]):
                        if is_name_text(other):
                            self.assertEqual(name_text(read_name(other)), other)
                            self.assertEqual(read_web(other)[0], read_name(other))
                        else:
                            with self.assertRaises(BadName) as caught:
                                read_name(other)
                            self.assertEqual(caught.exception.text, other)

    def test_what_is_none(self):
        self.assertIs(is_name_text("p0: c; p1: n; p0 1 p1"), True)
        for text in ("p0: c 0", "p0:c", "p0 : c", " p0: c", "p0: c ", "p0: c;", "p0: c; ", "p0: c\np1: c", "p1: c",
                     "a: c", "p0: c; p1: n; p1 1 p0", "p0: c; p0 1 p1; p1: n", "p1: c; p0: n", "p0: c # x", "p0: c -0",
                     "p0: c;p1: n", "p0: c;  p1: n", "p0: c; p2: n", "p00: c", "p0: c - 1", ";", " ", "\n", "#", "p0",
                     "p0: c; p0: c", "p0: c; p0 1 p1", "p0: c; p0 1 p0",
                     "p0: c; p1: c; p2: c; p0 1 p2; p0 1 p1",
                     "p0: c; p1: c; p2: c; p3: c; p0 1 p1; p0 1 p2; p0 1 p3; p0 hand + p1 p3 p2",
                     "p0: c; p1: c; p2: c; p0 2 p1; p0 1 p2; p1 1 p2; p1 p0 side + p2 p2",
                     "; ".join(f"p{k}: c" for k in range(25))):
            self.assertIs(is_name_text(text), False, text)
            with self.assertRaises(BadName) as caught:
                read_name(text)
            self.assertEqual(caught.exception.text, text)
        for value in ANY_VALUES:
            self.assertIs(is_name_text(value), isinstance(value, str) and value == "")


if __name__ == "__main__":
    unittest.main()
