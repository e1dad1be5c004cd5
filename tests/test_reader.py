"""webnames.reader: statements [42], the first fault [43], the web of a text [44], texts changed [47]."""

import random
import re
import unittest

from tests.helper import ANY_VALUES, near, sign_of_sequence, some_webs
from tests.test_words import SIGNS, plain_tokens
from webnames.errors import BadText, TakenPart, TooMany, UnfitRow, UnknownPart
from webnames.reader import is_web_text, read_web, statements, text_pairing
from webnames.webs import is_web

NAME = "(?!(hand|side)$)[a-z][a-z0-9]{0,7}"
FORMS = [
    [NAME, ":", "[a-z]{1,4}"], [NAME, ":", "[a-z]{1,4}", "[0-9]"], [NAME, ":", "[a-z]{1,4}", "-", "[1-9]"],
    [NAME, "[1-4]", NAME], [NAME, "hand", "[+-]", NAME, NAME, NAME], [NAME, "hand", "[+-]", NAME, NAME, NAME, NAME],
    [NAME, NAME, "side", "[+-]", NAME, NAME],
]


def fitting(words, whole):
    """The forms of statements that begin with these words, or are just these."""
    return [form for form in FORMS if (len(form) == len(words) if whole else len(form) >= len(words))
            and all(re.fullmatch(want, word) for want, word in zip(form, words))]


def plain_fault(text):
    """The first wrong token as `(row, spot)`, None if there is none, by looking at the forms of statements."""
    words = []
    for row, spot, word in plain_tokens(text):
        if word == ";":
            if words and not fitting(words, True):
                return (row, spot)
            words = []
        else:
            words.append(word)
            if not fitting(words, False):
                return (row, spot)
    return None


def written(rng, web, names):
    """Statements of the web in some form and sequence, with the parts' statements kept in sequence."""
    beside = near(web)
    rows = []
    for a, b, order in web[1]:
        a, b = rng.choice([(a, b), (b, a)])
        rows.append(f"{names[a]} {order} {names[b]}")
    for part, sign in web[2]:
        row = list(beside[part])
        rng.shuffle(row)
        sign = "+" if sign * sign_of_sequence(row) == 1 else "-"
        rows.append(f"{names[part]} hand {sign} " + " ".join(names[x] for x in row))
    for a, b, sign in web[3]:
        first, second = [x for x in beside[a] if x != b], [y for y in beside[b] if y != a]
        x, y = rng.choice(first), rng.choice(second)
        sign = sign * (1 if x == first[0] else -1) * (1 if y == second[0] else -1)
        if rng.random() < 0.5:
            a, b, x, y = b, a, y, x
        rows.append(f"{names[a]} {names[b]} side {'+' if sign == 1 else '-'} {names[x]} {names[y]}")
    rng.shuffle(rows)
    at = 0
    for name, (kind, mark) in zip(names, web[0]):
        at = rng.randrange(at, len(rows) + 1)
        mark = "" if mark == 0 and rng.random() < 0.5 else f" {mark}"
        rows.insert(at, f"{name}: {kind}{mark}")
        at += 1
    return rows


def joined(rng, rows):
    """The statements as a text, with some spaces, remarks and ENDS."""
    text = ""
    for row in rows:
        for word in re.findall("[a-z0-9]+|[^ ]", row):
            if text and text[-1].isalnum() and word[0].isalnum() or rng.random() < 0.3:
                text += " " * rng.randrange(1, 4)
            text += word
        text += rng.choice([";", "\n", " ;\n", "# " + rng.choice(SIGNS) + ";: #\n", "\n\n ;;", "  \n"])
    return text if rng.random() < 0.5 else text.rstrip(";\n ") if "#" not in text[-8:] else text


def some_names(rng, many):
    pool = [f"{letter}{k}" for letter in "abcxyz" for k in range(6)] + ["hands", "sides", "h", "s", "abcdefgh"]
    return rng.sample(pool, many)


class Statements(unittest.TestCase):
    def test_each_kind(self):
        self.assertEqual(statements("a: k"), [("part", 1, "a", "k", 0)])
        self.assertEqual(statements("a : hand 0"), [("part", 1, "a", "hand", 0)])
        self.assertEqual(statements("a:side 9"), [("part", 1, "a", "side", 9)])
        self.assertEqual(statements("\n a:abcd - 9"), [("part", 2, "a", "abcd", -9)])
        for mark in range(-9, 10):
            self.assertEqual(statements(f"a: k {mark}"), [("part", 1, "a", "k", mark)])
        self.assertEqual(statements("a 4 a"), [("tie", 1, "a", "a", 4)])
        self.assertEqual(statements("a hand+b c d"), [("hand", 1, "a", ["b", "c", "d"], 1)])
        self.assertEqual(statements("a hand - a a a a"), [("hand", 1, "a", ["a", "a", "a", "a"], -1)])
        self.assertEqual(statements("a b side+x y;a b side - x y"),
                         [("side", 1, "a", "b", "x", "y", 1), ("side", 1, "a", "b", "x", "y", -1)])
        self.assertEqual(statements(""), [])
        self.assertEqual(statements(" ;; #a\n\n;"), [])
        self.assertEqual(statements("a: k; # b: k\n\nc 1 d"), [("part", 1, "a", "k", 0), ("tie", 3, "c", "d", 1)])

    def test_first_faults(self):
        for text, row, spot in (
            ("A: k", 1, 0), ("1a: k", 1, 0), ("hand: k", 1, 0), ("side: k", 1, 0), (": k", 1, 0), ("- a", 1, 0),
            ("abcdefghi: k", 1, 0), ("a", 1, 1), ("a  # b", 1, 6), ("a;b: k", 1, 1), ("a\nb: k", 1, 1), ("a:", 1, 2),
            ("a: k1", 1, 3), ("a: abcde", 1, 3), ("a: 3", 1, 3), ("a: k 10", 1, 5), ("a: k 03", 1, 5), ("a: k +3", 1, 5),
            ("a: k -", 1, 6), ("a: k -0", 1, 6), ("a: k - 10", 1, 7), ("a: k 3 3", 1, 7), ("a: k -3 b", 1, 8),
            ("a: k b", 1, 5), ("a 0 b", 1, 2), ("a 5 b", 1, 2), ("a 11 b", 1, 2), ("a 1", 1, 3), ("a 1 hand", 1, 4),
            ("a 1 b c", 1, 6), ("a 1 2", 1, 4), ("a side + b c", 1, 2), ("a hand", 1, 6), ("a hand b", 1, 7),
            ("a hand +", 1, 8), ("a hand + b c", 1, 12), ("a hand + b c d e f", 1, 17), ("a hand + b side d", 1, 11),
            ("a hand ++", 1, 8), ("a b", 1, 3), ("a b c", 1, 4), ("a b hand + x y", 1, 4), ("a b side x y", 1, 9),
            ("a b side + x", 1, 12), ("a b side + x y z", 1, 15), ("a b side + side y", 1, 11), ("a: k\n\n b 1 ?", 3, 5),
            ("a: k;; b;", 1, 8), ("a: k, b: k", 1, 4), ("a.", 1, 1), ("a 1 b.", 1, 5),
        ):
            with self.assertRaises(BadText) as caught:
                statements(text)
            self.assertEqual((caught.exception.row, caught.exception.spot), (row, spot), text)
            self.assertEqual(plain_fault(text), (row, spot))
            self.assertIs(is_web_text(text), False)

    def test_some_texts(self):
        rng = random.Random(131)
        words = ["a", "b", "c", "x1", "hand", "side", ":", "+", "-", "1", "2", "5", "k", "0", "12", ";", "\n", "A", "#"]
        faults = 0
        for _ in range(3000):
            if rng.random() < 0.5:
                text = " ".join(rng.choice(words) for _ in range(rng.randrange(1, 9)))
            else:
                # A statement, changed in one word, or cut.
                form = rng.choice(["a : k - 3", "a 2 b", "a hand + b c d e", "a b side - x y", "a : k 4"]).split()
                at = rng.randrange(len(form) + 1)
                form[at:at + rng.randrange(2)] = rng.choice([[], [rng.choice(words)]])
                text = "a 1 b; " + " ".join(form) + rng.choice(["", ";", "\nb 1 c"])
            fault = plain_fault(text)
            if fault is None:
                self.assertEqual(len(statements(text)),
                                 len([1 for row in re.split("[;\n]", re.sub("#[^\n]*", "", text)) if row.strip()]))
            else:
                faults += 1
                with self.assertRaises(BadText) as caught:
                    read_web(text)
                self.assertEqual((caught.exception.row, caught.exception.spot), fault, text)
        self.assertGreater(faults, 1000)
        self.assertLess(faults, 2900)

    def test_lists_of_names_are_new(self):
        first, second = statements("a hand + b c d; a hand + b c d")
        first[3].append("e")
        self.assertEqual(second[3], ["b", "c", "d"])


class Read(unittest.TestCase):
    def fails(self, text, error):
        with self.assertRaises(type(error)) as caught:
            read_web(text)
        self.assertEqual(vars(caught.exception), vars(error), text)
        self.assertIs(is_web_text(text), False)

    def test_read_again(self):
        rng = random.Random(132)
        for web in some_webs(133, 60):
            names = some_names(rng, len(web[0]))
            text = joined(rng, written(rng, web, names))
            self.assertEqual(read_web(text), (web, names))
            self.assertIs(is_web(read_web(text)[0]), True)
            self.assertIs(is_web_text(text), True)
        self.assertEqual(read_web(""), (([], [], [], []), []))
        self.assertEqual(read_web("# nothing\n;"), (([], [], [], []), []))

    def test_taken_part(self):
        self.fails("a: k\nb: k; a: n\nb: k", TakenPart("a", 2))
        self.fails("a: k; z 1 q\na: k; a 1 a", TakenPart("a", 2))
        # Behind a fault in whatever row.
        self.fails("a: k; a: k\nb b b", BadText(2, 4))

    def test_unknown_part(self):
        self.fails("a: k; a 1 b", UnknownPart("b", 1))
        self.fails("a: k\nq 1 r; a 1 a", UnknownPart("q", 2))
        self.fails("a: k\na hand + r a q", UnknownPart("r", 2))
        self.fails("a: k\nr hand + q q q", UnknownPart("r", 2))
        self.fails("a: k; b: k\n\na b side + y x", UnknownPart("y", 3))
        self.fails("a: k; b: k\na b side + a x", UnknownPart("x", 2))
        self.fails("a: k\na q side + a x", UnknownPart("q", 2))
        self.fails("a 1 a; a b side + c c\na: k\nb: k", UnknownPart("c", 1))
        # Parts may be told behind; a part that is taken goes first.
        self.fails("a 1 q; b: k; b: k; a: k", TakenPart("b", 1))
        self.assertEqual(read_web("b 1 a; a: k; b: n")[1], ["a", "b"])

    def test_unfit_ties(self):
        parts = "a: k; b: k; c: k; d: k\n"
        self.fails(parts + "a 1 b; c 1 c", UnfitRow(2, "tie"))
        self.fails(parts + "a 1 b\nb 2 a", UnfitRow(3, "tie"))
        self.fails(parts + "a 1 b\na 1 b", UnfitRow(3, "tie"))
        star = "a: k;" + "".join(f"x{k}: k;" for k in range(7)) + "\n" + "\n".join(f"x{k} 1 a" for k in range(7))
        self.fails(star, UnfitRow(8, "tie"))
        star = "a: k;" + "".join(f"x{k}: k;" for k in range(7)) + "\n" + "\n".join(f"a 1 x{k}" for k in range(7))
        self.fails(star, UnfitRow(8, "tie"))
        self.assertEqual(len(read_web(star[:-7])[0][1]), 6)
        # Ahead of a hand and sides that do not fit, in whatever rows.
        self.fails(parts + "a hand + b c d\na b side + c d\n c 1 c", UnfitRow(4, "tie"))

    def test_unfit_hands(self):
        parts = "a: k; b: k; c: k; d: k; e: k; f: k\n"
        ties = "a 1 b; a 1 c; d 1 a\n"
        self.assertEqual(read_web(parts + "a hand - d c b\n" + ties)[0][2], [(0, 1)])
        for hand in ("a hand + b c e", "a hand + b c c", "a hand + b c d e", "a hand + b c d d", "a hand + a b c",
                     "b hand + a c d", "e hand + a b c"):
            self.fails(parts + ties + hand, UnfitRow(3, "hand"))
        self.fails(parts + ties + "a hand + b c d\na hand + b c d", UnfitRow(4, "hand"))
        self.fails(parts + ties + "a 1 e\na hand + b c d", UnfitRow(4, "hand"))
        self.assertEqual(read_web(parts + ties + "a 1 e\na hand + b e d c")[0][2], [(0, -1)])
        self.fails(parts + ties + "a 1 e; a 1 f\na hand + b c d e", UnfitRow(4, "hand"))
        # Ahead of sides that do not fit.
        self.fails(parts + ties + "a b side + c d\nb hand + a c d", UnfitRow(4, "hand"))

    def test_unfit_sides(self):
        parts = "a: k; b: k; c: k; d: k; e: k; f: k; g: k\n"
        ties = "a 2 b; a 1 c; a 1 d; b 1 e\n"
        self.assertEqual(read_web(parts + ties + "b a side + e d")[0][3], [(0, 1, -1)])
        for side in ("a c side + b b", "c d side + a a", "a a side + c d", "a b side + e c", "a b side + b e",
                     "a b side + c a", "a b side + f e", "a b side + c f", "f g side + a b"):
            self.fails(parts + ties + side, UnfitRow(3, "side"))
        self.fails(parts + ties + "a b side + c e; b a side - e c", UnfitRow(3, "side"))
        self.fails(parts + ties + "a b side + c e\na b side + d e", UnfitRow(4, "side"))
        self.fails(parts + ties + "a 1 f\na b side + c e", UnfitRow(4, "side"))
        self.fails(parts + ties + "b 1 f; b 1 g\na b side + c e", UnfitRow(4, "side"))
        self.fails(parts + "b 2 a; a 1 c; b 1 d; b 1 e; b 1 f\na b side + c d", UnfitRow(3, "side"))
        self.fails(parts + "a 2 b; a 1 c\na b side + c c", UnfitRow(3, "side"))
        self.fails(parts + "a 2 b; b 1 c\na b side + c c", UnfitRow(3, "side"))
        self.assertEqual(read_web(parts + "a 2 b; b 1 c; c 1 a; a b side - c c")[0][3], [(0, 1, -1)])
        for order in (1, 3, 4):
            self.fails(parts + f"a {order} b; b 1 c; c 1 a; a b side - c c", UnfitRow(2, "side"))

    def test_too_many(self):
        parts = "\n".join(f"p{k}: k" for k in range(24))
        pairs = [(k, (k + 1) % 24) for k in range(24)] + [(k, (k + 2) % 24) for k in range(24)]
        ties = "\n".join(f"p{a} 1 p{b}" for a, b in pairs)
        self.assertEqual(len(read_web(parts + "\n" + ties)[0][1]), 48)
        self.fails(parts + "\n" + ties + "\np0 1 p12", TooMany("ties", 48))
        self.fails(parts + "\nq: k\n" + ties, TooMany("parts", 24))
        self.fails(parts + "\nq: k\n" + ties + "\np0 1 p12", TooMany("parts", 24))
        # Behind all others.
        self.fails(parts + "\nq: k\n" + ties + "\np0 1 p0", UnfitRow(74, "tie"))
        self.fails(parts + "\nq: k\n" + ties + "\np0 p1 side + p2 p3", UnfitRow(74, "side"))
        self.fails("\n".join([parts, "q: k", "p3: k"]), TakenPart("p3", 26))

    def test_is_web_text(self):
        for value in ANY_VALUES:
            self.assertIs(is_web_text(value), isinstance(value, str) and value == "")
        self.assertIs(is_web_text("a: k"), True)
        self.assertIs(is_web_text(["a: k"]), False)


class TextPairings(unittest.TestCase):
    def test_changed_sequences(self):
        rng = random.Random(134)
        for web in some_webs(135, 60):
            names = some_names(rng, len(web[0]))
            rows = written(rng, web, names)
            first = joined(rng, rows)
            rng.shuffle(rows)
            second = joined(rng, rows)
            other, far_names = read_web(second)
            expected = [far_names.index(name) for name in names]
            self.assertEqual(text_pairing(first, second), expected)

    def test_none(self):
        text = "a: k; b: n; a 1 b"
        for other in ("a: k; b: n; a 2 b", "a: k; b: n", "a: n; b: k; a 1 b", "a: k; c: n; a 1 c", "a: k; b: n; c: k",
                      "a: k", ""):
            self.assertIsNone(text_pairing(text, other))
            self.assertIsNone(text_pairing(other, text))
        self.assertEqual(text_pairing("", "# nothing"), [])
        star = "m: k; x: k; y: k; z: k; m 1 x; m 1 y; m 1 z; "
        self.assertEqual(text_pairing(star + "m hand + x y z", star + "m hand - y x z"), [0, 1, 2, 3])
        self.assertIsNone(text_pairing(star + "m hand + x y z", star + "m hand + y x z"))

    def test_errors(self):
        many = "\n".join(f"p{k}: k" for k in range(25))
        with self.assertRaises(TooMany):
            text_pairing(many, "a")
        with self.assertRaises(UnknownPart):
            text_pairing("a 1 b", many)
        with self.assertRaises(BadText):
            text_pairing("", "a")
        with self.assertRaises(TooMany):
            text_pairing("", many)


if __name__ == "__main__":
    unittest.main()
