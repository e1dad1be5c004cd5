"""webnames.commands: named questions [165] and commands [166]."""

import random
import unittest

from tests import plain
from tests.helper import ANY_VALUES, Thing, changed_once, lists_in, same_kinds
from tests.test_deeds import plain_is_deed
from webnames.commands import asks_numbers, filled, is_command, is_desk_deed, is_named_question, names_in
from webnames.webs import is_web

WEB = plain.star(3, 1)
LENGTHS = {"alike": 3, "name": 3, "own mirror": 2, "hand": 3, "led": 4, "symmetries": 3, "rings": 3, "joined": 4, "match": 3, "common": 5}
NAMED = [
    ("alike", "a", "b1"), ("alike", "a", "a"), ("name", "a", "p0: c"), ("name", "a", None), ("own mirror", "x"), ("hand", "a", 0),
    ("hand", "a", [None]), ("led", "z", 0, 1), ("led", "z", "a", ()), ("symmetries", "a", 3), ("rings", "a", [3, 4]), ("joined", "a", 0, 0),
    ("match", ([((), None)], [], [], []), "a"), ("match", 0, "abcdefgh"), ("common", "a", "b", True, 3), ("common", "a", "b", None, "x"),
]
DEEDS = [
    ("new", "a", WEB), ("read", "a1", "x: c"), ("read", "a", ""), ("drop", "a"), ("mirror", "a"), ("form", "a"), ("renumber", "a", [1, 0]),
    ("renumber", "a", []), ("renumber", "a", [-5, 10 ** 29]), ("change", "a", ("put", 0, "k", 0)), ("change", "a", ("hand", 0, [1, 2, 3], 1)),
    ("shelve", "a", "b"), ("unshelve", "b"), ("note", "s", ("own mirror", "a")), ("attach", "s", ("alike", "a", "b"), None),
    ("attach", "s", ("hand", "a", 0), ("yes", [0])), ("renew", "s"), ("forget", "s"),
]
OTHERS = [("ask", ("rings", "a", [])), ("same", "a"), ("undo",), ("redo",)]


def plain_is_name(value):
    """Whether any value is a part name [42]."""
    letters = "abcdefghijklmnopqrstuvwxyz"
    if type(value) is not str or not 1 <= len(value) <= 8 or value in ("hand", "side"):
        return False
    return value[0] in letters and all(x in letters + "0123456789" for x in value)


def places_of(word):
    return {"alike": (1, 2), "common": (1, 2), "match": (2,)}.get(word, (1,))


def plain_is_named(value):
    if type(value) is not tuple or not value or type(value[0]) is not str or value[0] not in LENGTHS:
        return False
    return len(value) == LENGTHS[value[0]] and all(plain_is_name(value[place]) for place in places_of(value[0]))


def plain_is_command(value, only_deeds=False):
    """Whether any value is a command, or one of a deed, by the table of [166]."""
    if type(value) is not tuple or not value or type(value[0]) is not str:
        return False
    word, rest = value[0], value[1:]
    if word in ("ask", "same", "undo", "redo") and only_deeds:
        return False
    if word in ("undo", "redo"):
        return rest == ()
    if word == "ask":
        return len(rest) == 1 and plain_is_named(rest[0])
    if word not in [deed[0] for deed in DEEDS] + ["same"] or not rest or not plain_is_name(rest[0]):
        return False
    if word in ("drop", "mirror", "form", "unshelve", "renew", "forget", "same"):
        return len(rest) == 1
    if word == "attach":
        return len(rest) == 3 and plain_is_named(rest[1])
    if len(rest) != 2:
        return False
    fits = {
        "new": is_web, "read": lambda x: type(x) is str, "change": plain_is_deed, "shelve": plain_is_name, "note": plain_is_named,
        "renumber": lambda x: type(x) is list and all(type(y) is int for y in x),
    }
    return fits[word](rest[1])


class Commands(unittest.TestCase):
    def check(self, value):
        named, command, deed = plain_is_named(value), plain_is_command(value), plain_is_command(value, True)
        self.assertIs(is_named_question(value), named, value)
        self.assertIs(is_command(value), command, value)
        self.assertIs(is_desk_deed(value), deed, value)
        return (named, command, deed)

    def test_right_ones(self):
        for value in NAMED:
            self.assertEqual(self.check(value), (True, False, False))
            self.assertEqual(self.check(("ask", value)), (False, True, False))
            self.assertEqual(self.check(("note", "s", value)), (False, True, True))
            self.assertEqual(self.check(("attach", "s", value, Thing())), (False, True, True))
        for value in DEEDS:
            self.assertEqual(self.check(value), (False, True, True))
        for value in OTHERS:
            self.assertEqual(self.check(value), (False, True, False))

    def test_changed_in_one_thing(self):
        rng = random.Random(620)
        seen = {}
        for value in NAMED + DEEDS + OTHERS:
            changed = changed_once(value)
            for other in rng.sample(changed, min(len(changed), 60)):
                told = self.check(other)
                seen[told] = seen.get(told, 0) + 1
        self.assertEqual(set(seen), {(True, False, False), (False, True, True), (False, True, False), (False, False, False)})
        self.assertGreater(min(seen.values()), 5, seen)

    def test_any_values(self):
        for value in ANY_VALUES + [("Alike", "a", "b"), ("alike", "a"), ("alike", "a", "hand"), ("alike", "A", "b"), ("own mirror", "1a"),
                                   ("own mirror", "abcdefghi"), ("own mirror", ""), ("undo", 1), ("redo", "a"), ("undo", ()), ["undo"],
                                   ("ask",), ("ask", ("own mirror", "hand")), ("ask", ["own mirror", "a"]), ("same", "a", "b"),
                                   ("new", "a", None), ("new", "hand", WEB), ("read", "a", b"x"), ("renumber", "a", (0,)),
                                   ("renumber", "a", [True]), ("change", "a", ("put", 0)), ("shelve", "a"), ("shelve", "a", "1"),
                                   ("unshelve", "1"), ("note", "s", ("own mirror",)), ("attach", "s", ("own mirror", "a")),
                                   ("", "a"), ([], "a"), (None,), ((),), ("undo ",), ("drop", "a", None), ("drop", Thing())]:
            self.assertEqual(self.check(value), (False, False, False), value)
            for word in ("new", "read", "renumber", "change", "shelve", "note", "ask"):
                self.check((word, "a", value))
                self.check((word, value, value))
                self.check((word, value))
                self.check((value, word))


class Named(unittest.TestCase):
    def test_names_and_filled(self):
        webs = [plain.row(2), plain.star(3, 1)]
        for value in NAMED:
            places = places_of(value[0])
            self.assertTrue(same_kinds(names_in(value), [value[place] for place in places]))
            told = list(value)
            for place, web in zip(places, webs):
                told[place] = web
            given = webs[:len(places)]
            self.assertTrue(same_kinds(filled(value, given), tuple(told)))
            self.assertIs(asks_numbers(value), value[0] in ("hand", "led", "joined"))
            # What is returned is new.
            held = [id(x) for x in lists_in((value, given))]
            self.assertFalse({id(x) for x in lists_in(filled(value, given))} & set(held))


if __name__ == "__main__":
    unittest.main()
