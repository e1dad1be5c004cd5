"""webnames.desk: each command with its errors [166], [167], the status of notes [168], and the log [169]."""

import copy
import random
import unittest
from unittest import mock

from tests import plain
from tests.helper import ANY_VALUES, changed_once, lists_in, same_kinds, some_numbering, some_webs
from tests.test_commands import DEEDS, NAMED, OTHERS, places_of, plain_is_command
from tests.test_deeds import plain_can, plain_done, some_deed
from tests.test_patterns import pattern_in
from webnames.answering import answer
from webnames.commands import filled
from webnames.desk import Desk
from webnames.errors import (
    BadText, CannotDo, CommandFailed, InvalidCommand, LimitError, MissingError, NothingToRedo, NothingToUndo, StateError, TakenLabel,
    TakenNote, TakenPart, TakenWeb, TermError, TooMany, UnfitAnswer, UnfitNumbering, UnfitQuestion, UnfitRow, UnknownLabel, UnknownNote,
    UnknownPart, UnknownWeb,
)
from webnames.judging import is_answer, is_question
from webnames.mirrors import mirror
from webnames.names import is_alike
from webnames.numberings import renumbered
from webnames.search import quick_form, quick_name
from webnames.writer import write_web

K = plain.K
PAIR = plain.row(2)
OWN_ERRORS = (TermError, MissingError, StateError, LimitError)


def told(desk):
    """All that a desk tells."""
    return copy.deepcopy((
        desk.names, desk.labels, desk.shelf, desk.log, [desk.web(name) for name in desk.names],
        [(desk.note(label), desk.status(label), desk.statement(label)) for label in desk.labels],
    ))


class Cases(unittest.TestCase):
    def raises(self, error, call, *values):
        """Whether the call raises this error with these attributes; and, of a desk's command, that nothing changes."""
        with self.assertRaises(error) as caught:
            call()
        self.assertIs(type(caught.exception), error)
        self.assertTrue(same_kinds(tuple(vars(caught.exception).values()), values), vars(caught.exception))

    def fails(self, desk, command, error, *values):
        before = told(desk)
        self.raises(error, lambda: desk.do(command), *values)
        self.assertTrue(same_kinds(told(desk), before))


class Commands(Cases):
    def test_webs(self):
        desk = Desk()
        self.assertEqual(told(desk), ([], [], [], [], [], []))
        star = plain.star(3, 1)
        self.assertTrue(same_kinds(desk.do(("new", "b", star)), star))
        self.fails(desk, ("new", "b", PAIR), TakenWeb, "b")
        self.assertEqual(desk.do(("read", "a", "y: k; x: k -1; x 2 y")), ["y", "x"])
        self.assertEqual(desk.web("a"), ([K, ("k", -1)], [(0, 1, 2)], [], []))
        # The name goes ahead of what is wrong with the text.
        self.fails(desk, ("read", "a", "x x x"), TakenWeb, "a")
        for text, error, values in (
            ("x", BadText, (1, 1)), ("x: c\nx: c", TakenPart, ("x", 2)), ("x: c; x 1 y", UnknownPart, ("y", 1)),
            ("x: c; x 1 x", UnfitRow, (1, "tie")), ("\n".join(f"p{k}: c" for k in range(25)), TooMany, ("parts", 24)),
        ):
            self.fails(desk, ("read", "c", text), error, *values)
        self.assertEqual(desk.do(("mirror", "b")), mirror(star))
        self.assertEqual(desk.web("b"), mirror(star))
        self.assertEqual(desk.do(("form", "b")), quick_form(star))
        self.assertEqual(desk.do(("renumber", "b", [3, 0, 1, 2])), renumbered(quick_form(star), [3, 0, 1, 2]))
        for numbering in ([], [0, 1, 2], [0, 1, 2, 2], [0, 1, 2, 4], [-1, 0, 1, 2], [0, 1, 2, 3, 4], [10 ** 29]):
            self.fails(desk, ("renumber", "b", numbering), UnfitNumbering, numbering)
        self.assertEqual(desk.do(("change", "a", ("order", 1, 0, 3))), ([K, ("k", -1)], [(0, 1, 3)], [], []))
        self.fails(desk, ("change", "a", ("tie", 0, 1, 1)), CannotDo, ("tie", 0, 1, 1))
        self.fails(desk, ("change", "b", ("hand", 0, [4, 5, 6], 1)), CannotDo, ("hand", 0, [4, 5, 6], 1))
        for command in (("drop", "z"), ("mirror", "z"), ("form", "z"), ("renumber", "z", [5]), ("change", "z", ("drop", 9)),
                        ("shelve", "z", "z"), ("same", "z")):
            self.fails(desk, command, UnknownWeb, "z")
        self.raises(UnknownWeb, lambda: desk.web("z"), "z")
        self.assertEqual((desk.names, len(desk.log)), (["a", "b"], 6))
        self.assertEqual(desk.do(("drop", "a")), ([K, ("k", -1)], [(0, 1, 3)], [], []))
        self.assertEqual(desk.names, ["b"])

    def test_shelf(self):
        desk = Desk()
        for name, web in (("a", plain.star(3, 1)), ("b", renumbered(plain.star(3, -1), [2, 1, 0, 3])), ("c", PAIR)):
            desk.do(("new", name, web))
        self.assertEqual([desk.do(("shelve", name, label)) for name, label in (("a", "z"), ("c", "y"), ("b", "x"), ("a", "a"))],
                         [[], [], ["z"], ["x", "z"]])
        self.fails(desk, ("shelve", "c", "z"), TakenLabel, "z")
        self.fails(desk, ("shelve", "q", "z"), UnknownWeb, "q")
        self.assertEqual(desk.do(("same", "b")), ["a", "x", "z"])
        self.assertEqual([label for label, _ in desk.shelf], ["a", "x", "y", "z"])
        self.assertTrue(same_kinds(dict(desk.shelf)["x"], desk.web("b")))
        self.fails(desk, ("unshelve", "q"), UnknownLabel, "q")
        # What is on the shelf stays as it was added.
        desk.do(("mirror", "b"))
        desk.do(("drop", "a"))
        self.assertEqual(desk.do(("unshelve", "x")), renumbered(plain.star(3, -1), [2, 1, 0, 3]))
        self.assertEqual(desk.do(("same", "b")), ["a", "z"])
        self.fails(desk, ("unshelve", "x"), UnknownLabel, "x")
        self.assertEqual(desk.do(("undo",)), ("unshelve", "x"))
        self.assertEqual(desk.do(("same", "b")), ["a", "x", "z"])
        self.assertEqual(desk.do(("redo",)), ("unshelve", "x"))
        self.assertEqual(desk.do(("same", "b")), ["a", "z"])

    def test_notes(self):
        desk = Desk()
        desk.do(("new", "a", plain.star(3, 1)))
        desk.do(("new", "b", PAIR))
        self.assertEqual(desk.do(("note", "s", ("hand", "a", 0))), "no")
        self.assertEqual(desk.do(("note", "b", ("alike", "a", "b"))), "no")
        self.assertEqual(desk.do(("attach", "a", ("alike", "b", "b"), ("yes", [1, 0]))), "yes")
        self.assertEqual(desk.do(("attach", "t", ("joined", "b", 0, 0), ("yes", [0]))), "yes")
        self.assertEqual((desk.labels, desk.statement("s"), desk.statement("a")), (["a", "b", "s", "t"], "no", "yes"))
        self.assertEqual(desk.note("a"), (("alike", "b", "b"), ("yes", [1, 0])))
        question, found = desk.note("s")
        self.assertEqual(question, ("hand", "a", 0))
        self.assertIs(is_answer(("hand", plain.star(3, 1), 0), found), True)
        for word in ("note", "attach"):
            rest = () if word == "note" else (None,)
            self.fails(desk, (word, "s", ("alike", "q", "r"), *rest), TakenNote, "s")
            self.fails(desk, (word, "x", ("alike", "q", "r"), *rest), UnknownWeb, "q")
            self.fails(desk, (word, "x", ("alike", "a", "r"), *rest), UnknownWeb, "r")
            self.fails(desk, (word, "x", ("common", "r", "q", None, -1), *rest), UnknownWeb, "r")
            for wrong in (("hand", "a", 1), ("hand", "b", 0), ("led", "b", 0, 2), ("symmetries", "a", True), ("rings", "a", (3,)),
                          ("match", None, "a"), ("common", "a", "b", 1, 0), ("common", "a", "b", True, 25), ("name", "a", 7)):
                self.fails(desk, (word, "x", wrong, *rest), UnfitQuestion, wrong)
        for wrong in (None, ("yes", [0, 0]), ("no", [1, 0]), ["yes", [1, 0]], ("no", ("apart", ("view",)))):
            self.fails(desk, ("attach", "x", ("alike", "b", "b"), wrong), UnfitAnswer, wrong)
        self.fails(desk, ("forget", "x"), UnknownNote, "x")
        self.fails(desk, ("renew", "x"), UnknownNote, "x")
        for function in (desk.note, desk.status, desk.statement):
            self.raises(UnknownNote, lambda: function("x"), "x")
        self.assertEqual(desk.do(("forget", "a")), ("yes", [1, 0]))
        self.assertEqual(desk.labels, ["b", "s", "t"])
        # Answered again, about the webs that are there now.
        desk.do(("change", "a", ("kind", 1, "x")))
        desk.do(("change", "a", ("kind", 2, "y")))
        self.assertEqual((desk.status("s"), desk.statement("s")), ("stale", "no"))
        self.assertEqual(desk.do(("renew", "s")), "yes")
        self.assertEqual((desk.status("s"), desk.statement("s")), ("fresh", "yes"))
        desk.do(("change", "a", ("bare", 0)))
        self.fails(desk, ("renew", "s"), UnfitQuestion, ("hand", "a", 0))
        desk.do(("drop", "a"))
        self.fails(desk, ("renew", "s"), UnknownWeb, "a")
        self.fails(desk, ("renew", "b"), UnknownWeb, "a")

    def test_asking(self):
        desk = Desk()
        desk.do(("new", "a", plain.star(3, 1)))
        before = told(desk)
        self.assertIs(is_answer(("own mirror", plain.star(3, 1)), desk.do(("ask", ("own mirror", "a")))), True)
        self.assertEqual(desk.do(("ask", ("rings", "a", []))), ("yes", []))
        self.fails(desk, ("ask", ("alike", "a", "q")), UnknownWeb, "q")
        self.fails(desk, ("ask", ("hand", "a", 2)), UnfitQuestion, ("hand", "a", 2))
        self.assertTrue(same_kinds(told(desk), before))
        # Neither asking nor looking ends what can be redone.
        desk.do(("undo",))
        desk.do(("redo",))
        desk.do(("undo",))
        self.fails(desk, ("ask", ("own mirror", "a")), UnknownWeb, "a")
        desk.do(("redo",))
        self.assertTrue(same_kinds(told(desk), before))

    def test_too_many_of_answers(self):
        free, nine = ([((), None)] * 3, [], [], []), plain.alone(9)
        desk = Desk()
        for name, web in (("a", plain.alone(16)), ("b", nine), ("c", PAIR)):
            desk.do(("new", name, web))
        for question, what, limit in ((("match", free, "a"), "tables", 3000), (("common", "b", "b", False, 1), "parts", 8)):
            for command in (("ask", question), ("note", "x", question)):
                self.fails(desk, command, TooMany, what, limit)
        desk.do(("note", "x", ("match", free, "c")))
        desk.do(("renumber", "c", [1, 0]))
        desk.do(("drop", "c"))
        desk.do(("new", "c", plain.alone(16)))
        self.fails(desk, ("renew", "x"), TooMany, "tables", 3000)
        # "attach" has no such error.
        desk.do(("attach", "y", ("match", free, "a"), ("yes", [3, 1, 2])))

        def too_many(web):
            raise TooMany("nodes", 130000)

        with mock.patch("webnames.desk.quick_form", too_many):
            self.fails(desk, ("form", "a"), TooMany, "nodes", 130000)

    def test_any_values(self):
        desk = Desk()
        desk.do(("new", "a", plain.star(3, 1)))
        rng = random.Random(630)
        values = list(ANY_VALUES)
        for command in DEEDS + OTHERS + [("ask", question) for question in NAMED]:
            values += rng.sample(changed_once(command), min(20, len(changed_once(command))))
        for value in values:
            if not plain_is_command(value):
                with self.assertRaises(InvalidCommand) as caught:
                    desk.do(value)
                if value == value:
                    self.assertEqual(caught.exception.value, value)
                    self.assertIs(type(caught.exception.value), type(value))
            else:
                try:
                    desk.do(value)
                except OWN_ERRORS as error:
                    self.assertNotIsInstance(error, InvalidCommand)
        self.assertTrue(same_kinds(told(desk), told(Desk.again(desk.log))))


class Limits(Cases):
    def test_20_webs(self):
        desk = Desk()
        for k in range(20):
            desk.do(("new", f"a{k}", plain.alone(k)))
        for command in (("new", "b", PAIR), ("read", "b", "x: c")):
            self.fails(desk, command, TooMany, "webs", 20)
        # Told behind the other errors.
        self.fails(desk, ("new", "a3", PAIR), TakenWeb, "a3")
        self.fails(desk, ("read", "b", "x"), BadText, 1, 1)
        # Webs on the shelf have no names.
        desk.do(("shelve", "a1", "x"))
        desk.do(("drop", "a7"))
        desk.do(("read", "b", "x: c"))
        self.fails(desk, ("new", "a7", PAIR), TooMany, "webs", 20)
        desk.do(("undo",))
        desk.do(("new", "a7", PAIR))
        self.assertEqual(len(desk.names), 20)

    def test_20_notes(self):
        desk = Desk()
        desk.do(("new", "a", PAIR))
        for k in range(20):
            desk.do(("note", f"n{k}", ("symmetries", "a", k)))
        for command in (("note", "x", ("rings", "a", [])), ("attach", "x", ("rings", "a", []), ("yes", []))):
            self.fails(desk, command, TooMany, "notes", 20)
        self.fails(desk, ("note", "n3", ("rings", "a", [])), TakenNote, "n3")
        self.fails(desk, ("note", "x", ("rings", "b", [])), UnknownWeb, "b")
        self.fails(desk, ("attach", "x", ("rings", "a", []), ("no", [])), UnfitAnswer, ("no", []))
        desk.do(("new", "b", plain.alone(16)))
        self.fails(desk, ("note", "x", ("match", ([((), None)] * 3, [], [], []), "b")), TooMany, "tables", 3000)
        desk.do(("renew", "n3"))
        desk.do(("forget", "n3"))
        desk.do(("note", "x", ("rings", "a", [])))
        self.assertEqual(len(desk.labels), 20)

    def test_60_deeds_and_one_more(self):
        desk = Desk()
        desk.do(("new", "a", PAIR))
        for k in range(59):
            desk.do(("renumber", "a", [1, 0]))
        self.assertEqual(len(desk.log), 60)
        for command in (("mirror", "a"), ("form", "a"), ("drop", "a"), ("new", "b", PAIR), ("read", "b", ""), ("shelve", "a", "x"),
                        ("note", "x", ("rings", "a", [])), ("attach", "x", ("rings", "a", []), ("yes", [])), ("renumber", "a", [0, 1]),
                        ("change", "a", ("mark", 0, 1))):
            self.fails(desk, command, TooMany, "deeds", 60)
        for command, error, values in (
            (("drop", "b"), UnknownWeb, ("b",)), (("new", "a", PAIR), TakenWeb, ("a",)), (("unshelve", "x"), UnknownLabel, ("x",)),
            (("change", "a", ("drop", 5)), CannotDo, (("drop", 5),)), (("forget", "x"), UnknownNote, ("x",)), (("drop",), InvalidCommand, (("drop",),)),
            (("note", "x", ("led", "a", 0, 9)), UnfitQuestion, (("led", "a", 0, 9),)), (("renumber", "a", [0]), UnfitNumbering, ([0],)),
        ):
            self.fails(desk, command, error, *values)
        self.assertEqual((desk.do(("ask", ("rings", "a", []))), desk.do(("same", "a"))), (("yes", []), []))
        desk.do(("undo",))
        desk.do(("redo",))
        self.fails(desk, ("mirror", "a"), TooMany, "deeds", 60)
        desk.do(("undo",))
        desk.do(("mirror", "a"))
        self.fails(desk, ("redo",), NothingToRedo)
        self.assertTrue(same_kinds(told(desk), told(Desk.again(desk.log))))
        for _ in range(60):
            desk.do(("undo",))
        self.fails(desk, ("undo",), NothingToUndo)
        self.assertEqual(told(desk), told(Desk()))

    def test_which_limit_goes_first(self):
        desk = Desk()
        for k in range(20):
            desk.do(("new", f"a{k}", PAIR))
        for k in range(20):
            desk.do(("note", f"n{k}", ("rings", "a0", [])))
        for k in range(20):
            desk.do(("mirror", "a0"))
        self.fails(desk, ("new", "b", PAIR), TooMany, "webs", 20)
        self.fails(desk, ("note", "x", ("rings", "a0", [])), TooMany, "notes", 20)
        self.fails(desk, ("drop", "a0"), TooMany, "deeds", 60)


class Statuses(Cases):
    def test_each_status(self):
        desk = Desk()
        star = plain.star(3, 1)
        desk.do(("new", "a", star))
        desk.do(("new", "b", PAIR))
        for label, question in (("m", ("own mirror", "a")), ("h", ("hand", "a", 0)), ("l", ("led", "a", 1, 2)), ("j", ("joined", "a", 1, 2)),
                                ("c", ("common", "a", "b", True, 2)), ("s", ("alike", "b", "b")), ("p", ("match", ([((), None)], [], [], []), "a"))):
            desk.do(("note", label, question))
        statuses = lambda: "".join(desk.status(label)[0] for label in ("m", "h", "l", "j", "c", "s", "p"))
        self.assertEqual(statuses(), "fffffff")
        desk.do(("renumber", "a", [1, 0, 2, 3]))
        # Carried, or stale where parts' numbers are asked about; lost.
        self.assertEqual([desk.status(label) for label in ("m", "h", "l", "j", "c", "s", "p")],
                         ["carried", "stale", "stale", "stale", "carried", "fresh", "carried"])
        desk.do(("renumber", "a", [1, 0, 2, 3]))
        self.assertEqual(statuses(), "fffffff")
        desk.do(("mirror", "a"))
        # The mirror is alike with it here, but it is not the same web.
        self.assertEqual(statuses(), "cssscfc")
        desk.do(("mirror", "a"))
        desk.do(("change", "a", ("mark", 1, 2)))
        self.assertEqual(statuses(), "sssssfs")
        desk.do(("drop", "b"))
        self.assertEqual(statuses(), "sssslls")
        desk.do(("drop", "a"))
        self.assertEqual(statuses(), "lllllll")
        desk.do(("new", "b", PAIR))
        self.assertEqual(statuses(), "lllllfl")
        # Another web of the same name.
        desk.do(("new", "a", renumbered(star, [3, 0, 1, 2])))
        self.assertEqual(statuses(), "cssscfc")
        desk.do(("renew", "l"))
        self.assertEqual(statuses(), "csfscfc")
        for label in ("m", "c", "p"):
            self.assertEqual(desk.statement(label), answer(filled(desk.note(label)[0], [desk.web(name) for name in ("a", "b")]))[0])

    def test_one_of_two_webs(self):
        desk = Desk()
        desk.do(("new", "a", plain.row(3)))
        desk.do(("new", "b", plain.ring(3)))
        desk.do(("note", "n", ("alike", "a", "b")))
        for command, status in ((("renumber", "a", [1, 0, 2]), "carried"), (("renumber", "b", [1, 0, 2]), "carried"),
                                (("change", "b", ("untie", 0, 1)), "stale"), (("change", "b", ("tie", 0, 1, 1)), "carried"),
                                (("renumber", "a", [1, 0, 2]), "fresh"), (("drop", "a"), "lost"), (("drop", "b"), "lost")):
            desk.do(command)
            self.assertEqual(desk.status("n"), status, command)
        self.assertEqual(desk.statement("n"), "no")


class Logs(Cases):
    def some_command(self, rng, desk):
        """A command that often can be done."""
        names, labels, shelf = desk.names, desk.labels, [label for label, _ in desk.shelf]
        free = [x for x in ("a", "b", "c", "d1", "e") if x not in names]
        name = rng.choice(names or ["a"]) if rng.random() < 0.9 else rng.choice("abcz")
        word = rng.choice(["new", "new", "read", "drop", "mirror", "form", "renumber", "change", "change", "shelve", "unshelve", "note",
                           "note", "attach", "renew", "forget", "ask", "same", "undo", "undo", "redo", "wrong"])
        web = desk.web(name) if name in names else PAIR
        if word == "new":
            given = rng.choice(some_webs(rng.randrange(40), 8, 6))
            return ("new", rng.choice(free or ["a"]), given)
        if word == "read":
            given = rng.choice(some_webs(rng.randrange(40), 8, 5))
            return ("read", rng.choice(free or ["a"]), write_web(given, [f"x{k}" for k in range(len(given[0]))]))
        if word in ("drop", "mirror", "form", "same"):
            return (word, name)
        if word == "renumber":
            return (word, name, some_numbering(rng, len(web[0]) if rng.random() < 0.9 else 3))
        if word == "change":
            return (word, name, some_deed(rng, web))
        if word == "shelve":
            return (word, name, rng.choice("xyzw"))
        if word == "unshelve":
            return (word, rng.choice(shelf or ["x"]))
        if word in ("renew", "forget"):
            return (word, rng.choice(labels or ["n"]))
        if word in ("note", "attach", "ask"):
            question = self.some_question(rng, names or ["a"], name, web)
            if word == "ask":
                return (word, question)
            label = rng.choice(["n", "m", "o", "p"])
            if word == "note":
                return (word, label, question)
            webs = [desk.web(x) if x in names else PAIR for x in [question[place] for place in places_of(question[0])]]
            right = is_question(filled(question, webs)) and question[0] not in ("match", "common")
            return (word, label, question, answer(filled(question, webs)) if right else ("yes", []))
        return (word,) if word != "wrong" else ("wrong", name)

    def some_question(self, rng, names, name, web):
        many = max(len(web[0]), 1)
        return rng.choice([
            ("alike", name, rng.choice(names)), ("name", name, quick_name(web)), ("own mirror", name), ("hand", name, rng.randrange(many)),
            ("led", name, rng.randrange(many), rng.randrange(many)), ("symmetries", name, rng.randrange(3)), ("rings", name, []),
            ("joined", name, rng.randrange(many), rng.randrange(many)), ("match", pattern_in(rng, web, 2), name),
            ("common", name, rng.choice(names), rng.random() < 0.5, rng.randrange(4)),
        ])

    def test_any_rows_of_commands(self):
        rng = random.Random(631)
        words, failed = {}, {}
        for _ in range(25):
            desk = Desk()
            # What was told ahead of each deed that stands, and behind each one that was taken back.
            ahead, behind = [], []
            for _ in range(50):
                command = self.some_command(rng, desk)
                before = told(desk)
                try:
                    desk.do(command)
                except OWN_ERRORS as error:
                    failed[type(error).__name__] = failed.get(type(error).__name__, 0) + 1
                    self.assertTrue(same_kinds(told(desk), before))
                    continue
                words[command[0]] = words.get(command[0], 0) + 1
                if command[0] == "undo":
                    self.assertTrue(same_kinds(told(desk), ahead.pop()))
                    behind.append(before)
                elif command[0] == "redo":
                    self.assertTrue(same_kinds(told(desk), behind.pop()))
                    ahead.append(before)
                elif command[0] in ("ask", "same"):
                    self.assertTrue(same_kinds(told(desk), before))
                else:
                    ahead.append(before)
                    behind = []
                    self.assertEqual(desk.log, before[3] + [command])
                self.check_notes(desk)
            other = Desk.again(desk.log)
            self.assertTrue(same_kinds(told(other), told(desk)))
            self.assertIsNot(other, desk)
        self.assertEqual(set(words), {command[0] for command in DEEDS + OTHERS})
        self.assertTrue({"InvalidCommand", "TakenNote", "UnknownWeb", "UnfitQuestion", "NothingToRedo", "NothingToUndo", "CannotDo",
                         "UnfitNumbering", "TakenLabel", "UnknownLabel", "UnknownNote"} <= set(failed), failed)

    def check_notes(self, desk):
        for label in desk.labels:
            question, found = desk.note(label)
            names = [question[place] for place in places_of(question[0])]
            if desk.status(label) == "lost":
                self.assertFalse(set(names) <= set(desk.names))
                continue
            webs = [desk.web(name) for name in names]
            if desk.status(label) == "fresh":
                self.assertIs(is_answer(filled(question, webs), found), True)
            if desk.status(label) == "carried":
                self.assertEqual(answer(filled(question, webs))[0], desk.statement(label))

    def test_undo_and_redo_of_each_deed(self):
        star = plain.star(3, 1)
        start = [("new", "a", star), ("new", "b", PAIR), ("shelve", "b", "x"), ("note", "n", ("own mirror", "a"))]
        for command in (("new", "c", PAIR), ("read", "c", "x: c"), ("drop", "a"), ("mirror", "a"), ("form", "a"), ("renumber", "a", [3, 2, 1, 0]),
                        ("change", "a", ("drop", 0)), ("shelve", "a", "y"), ("unshelve", "x"), ("note", "m", ("rings", "a", [])),
                        ("attach", "m", ("rings", "a", []), ("yes", [])), ("renew", "n"), ("forget", "n")):
            desk = Desk()
            desk.do_all(start)
            before = told(desk)
            desk.do(command)
            after = told(desk)
            for _ in range(2):
                self.assertTrue(same_kinds(desk.do(("undo",)), command))
                self.assertTrue(same_kinds(told(desk), before))
                self.assertTrue(same_kinds(desk.do(("redo",)), command))
                self.assertTrue(same_kinds(told(desk), after))
            desk.do(("undo",))
            desk.do(("new", "z", PAIR))
            self.fails(desk, ("redo",), NothingToRedo)

    def test_do_all(self):
        rows = [("new", "a", PAIR), ("mirror", "a"), ("undo",), ("redo",), ("ask", ("rings", "a", [])), ("note", "n", ("rings", "a", []))]
        desk = Desk()
        self.assertEqual(desk.do_all([]), [])
        self.assertTrue(same_kinds(desk.do_all(rows), [PAIR, PAIR, ("mirror", "a"), ("mirror", "a"), ("yes", []), "yes"]))
        self.assertEqual([command[0] for command in desk.log], ["new", "mirror", "note"])
        for wrong in (None, ("drop", "z"), ("new", "a", PAIR), ("redo",), 7, ("change", "a", ("drop", 9)), ["undo"], ("read", "q", "x")):
            for place in range(5):
                # What can be undone and redone is as it was, too.
                desk = Desk()
                desk.do_all([("new", "a", PAIR), ("renumber", "a", [1, 0]), ("form", "a"), ("undo",)])
                before = told(desk)
                given = [("mirror", "a"), ("undo",), ("undo",), ("redo",), ("shelve", "a", "x")]
                given = given[:place] + [wrong] + given[place:]
                if wrong == ("redo",):
                    given = [("mirror", "a")] * place + [wrong, wrong]
                for function in (desk.do_all, desk.attempt):
                    expected = place + (wrong == ("redo",) and place == 0)
                    self.raises(CommandFailed, lambda: function(given), expected)
                    self.assertTrue(same_kinds(told(desk), before))
                self.assertEqual(desk.do(("redo",)), ("form", "a"))
                desk.do(("undo",))
                self.assertEqual(desk.do(("undo",)), ("renumber", "a", [1, 0]))
        for value in ANY_VALUES:
            desk = Desk()
            self.raises(CommandFailed, lambda: desk.do_all([("new", "a", PAIR), value]), 1)
            self.assertEqual(told(desk), told(Desk()))

    def test_attempt(self):
        desk = Desk()
        desk.do_all([("new", "a", PAIR), ("renumber", "a", [1, 0]), ("undo",)])
        before = told(desk)
        rows = [("new", "b", PAIR), ("note", "n", ("alike", "a", "b")), ("drop", "a"), ("undo",), ("undo",), ("redo",), ("shelve", "b", "x")]
        found = desk.attempt(rows)
        self.assertTrue(same_kinds(found, Desk.again(desk.log).do_all(rows)))
        self.assertTrue(same_kinds(told(desk), before))
        self.assertEqual(desk.do(("redo",)), ("renumber", "a", [1, 0]))

    def test_again(self):
        self.assertIsInstance(vars(Desk)["again"], staticmethod)
        self.assertEqual(told(Desk.again([])), told(Desk()))
        self.assertEqual(Desk.again(commands=[("new", "a", PAIR)]).names, ["a"])

    def test_what_is_passed_and_returned_is_copied(self):
        desk = Desk()
        star = tuple(list(rows) for rows in plain.star(3, 1))
        pattern = ([((), None)], [], [], [])
        numbering, paper, deed = [0, 2, 3, 1], [1, 0], ("hand", 0, [3, 2, 1], 1)
        commands = [("new", "a", star), ("new", "b", tuple(list(rows) for rows in PAIR)), ("renumber", "a", numbering), ("change", "a", deed),
                    ("attach", "t", ("alike", "b", "b"), ("yes", paper)), ("note", "p", ("match", pattern, "a")), ("shelve", "a", "x"),
                    ("read", "c", "x: c")]
        results = [desk.do(command) for command in commands]
        before = told(desk)
        # What was handed in is changed, and what was returned.
        held = [id(x) for x in lists_in(tuple(commands))]
        returned = [desk.names, desk.labels, desk.shelf, desk.log, desk.web("a"), desk.note("t"), desk.note("p"), desk.do(("same", "a")),
                    desk.do(("ask", ("rings", "a", []))), desk.do(("ask", ("match", pattern, "a")))]
        self.assertFalse(set(held) & {id(x) for x in lists_in((results, returned))})
        for rows in lists_in((results, returned)) + lists_in(tuple(commands)):
            rows.clear()
        self.assertTrue(same_kinds(told(desk), before))
        desk.do(("undo",))
        told_again = desk.do(("undo",))
        self.assertEqual(told_again, ("shelve", "a", "x"))
        for rows in lists_in(desk.do(("undo",))):
            rows.clear()
        for _ in range(3):
            desk.do(("redo",))
        self.assertTrue(same_kinds(told(desk), before))

    def test_webs_on_a_desk_are_those_of_the_deeds(self):
        rng = random.Random(632)
        for web in some_webs(633, 12, 10):
            desk = Desk()
            desk.do(("new", "a", web))
            here = web
            for _ in range(20):
                deed = some_deed(rng, here)
                if plain_can(here, deed):
                    here = plain_done(here, deed)
                    self.assertTrue(same_kinds(desk.do(("change", "a", deed)), here))
                else:
                    self.fails(desk, ("change", "a", deed), CannotDo, deed)
            self.assertIs(is_alike(desk.do(("form", "a")), here) if len(here[0]) < 7 else True, True)


if __name__ == "__main__":
    unittest.main()
