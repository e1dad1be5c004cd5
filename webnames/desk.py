"""A desk: webs with names, notes of questions with their answers, and a shelf; deeds can be undone."""

from webnames.answering import answer
from webnames.commands import asks_numbers, filled, is_command, is_desk_deed, names_in
from webnames.deeds import done
from webnames.errors import (
    CommandFailed, InvalidCommand, LimitError, MissingError, NothingToRedo, NothingToUndo, StateError, TakenNote,
    TakenWeb, TermError, TooMany, UnfitAnswer, UnfitNumbering, UnfitQuestion, UnknownNote, UnknownWeb, kept,
)
from webnames.judging import is_answer, is_question
from webnames.library import Library
from webnames.mirrors import mirror
from webnames.numberings import is_numbering, renumbered
from webnames.pairings import first_pairing
from webnames.reader import read_web
from webnames.search import quick_form

MOST_NAMED = 20
MOST_NOTES = 20
MOST_LOGGED = 60


class Note:
    """A question with its answer, and the webs that it was asked about."""

    def __init__(self, question, told, webs):
        self.question = question
        self.told = told
        self.webs = webs


class Setup:
    """What is on a desk: webs by their names, notes by their labels, the shelf; webs and notes are never changed."""

    def __init__(self, webs_named, notes, library):
        self.webs_named = webs_named
        self.notes = notes
        self.library = library

    def twin(self):
        """Another one that has the same on it."""
        return Setup(dict(self.webs_named), dict(self.notes), self.library.twin())

    def web_at(self, name):
        """The web of this name."""
        if name not in self.webs_named:
            raise UnknownWeb(name)
        return self.webs_named[name]

    def note_at(self, label):
        """The note with this label."""
        if label not in self.notes:
            raise UnknownNote(label)
        return self.notes[label]

    def check_free_name(self, name):
        """Raises TakenWeb if a web has this name."""
        if name in self.webs_named:
            raise TakenWeb(name)

    def check_free_label(self, label):
        """Raises TakenNote if a note has this label."""
        if label in self.notes:
            raise TakenNote(label)

    def webs_asked(self, question):
        """The webs that a named question is about, if it can be asked."""
        webs = [self.web_at(name) for name in names_in(question)]
        if not is_question(filled(question, webs)):
            raise UnfitQuestion(question)
        return webs

    def put_web(self, name, web):
        """Gives a web this name, which is free."""
        if len(self.webs_named) == MOST_NAMED:
            raise TooMany("webs", MOST_NAMED)
        self.webs_named[name] = web

    def put_note(self, label, note):
        """Puts a note with this label, which is free."""
        if len(self.notes) == MOST_NOTES:
            raise TooMany("notes", MOST_NOTES)
        self.notes[label] = note


def answered(setup, question):
    """The Note of a named question that is answered anew."""
    webs = setup.webs_asked(question)
    return Note(question, answer(filled(question, webs)), webs)


def do_new(setup, command):
    """Gives a web a name; returns the web."""
    word, name, web = command
    setup.check_free_name(name)
    setup.put_web(name, web)
    return web


def do_read(setup, command):
    """Gives the web of a text a name; returns the names of its parts."""
    word, name, text = command
    setup.check_free_name(name)
    web, names = read_web(text)
    setup.put_web(name, web)
    return names


def do_drop(setup, command):
    """Takes a web away; returns it."""
    web = setup.web_at(command[1])
    del setup.webs_named[command[1]]
    return web


def do_make(setup, command):
    """Makes a web another one: its mirror, its form, renumbered or changed; returns the new one."""
    web = setup.web_at(command[1])
    if command[0] == "mirror":
        there = mirror(web)
    elif command[0] == "form":
        there = quick_form(web)
    elif command[0] == "change":
        there = done(web, command[2])
    elif is_numbering(command[2], len(web[0])):
        there = renumbered(web, command[2])
    else:
        raise UnfitNumbering(command[2])
    setup.webs_named[command[1]] = there
    return there


def do_shelve(setup, command):
    """Adds a web to the shelf; returns the labels there of those that are alike with it."""
    word, name, label = command
    return setup.library.add(setup.web_at(name), label)


def do_unshelve(setup, command):
    """Takes a web from the shelf; returns it."""
    return setup.library.take_out(command[1])


def do_note(setup, command):
    """Answers a question and notes it; returns the statement."""
    word, label, question = command
    setup.check_free_label(label)
    note = answered(setup, question)
    setup.put_note(label, note)
    return note.told[0]


def do_attach(setup, command):
    """Notes a question with an answer that is given; returns the statement."""
    word, label, question, told = command
    setup.check_free_label(label)
    webs = setup.webs_asked(question)
    if not is_answer(filled(question, webs), told):
        raise UnfitAnswer(told)
    setup.put_note(label, Note(question, told, webs))
    return told[0]


def do_renew(setup, command):
    """Answers the question of a note again; returns the statement."""
    note = answered(setup, setup.note_at(command[1]).question)
    setup.notes[command[1]] = note
    return note.told[0]


def do_forget(setup, command):
    """Takes a note away; returns its answer."""
    note = setup.note_at(command[1])
    del setup.notes[command[1]]
    return note.told


ACTIONS = {
    "new": do_new, "read": do_read, "drop": do_drop, "mirror": do_make, "form": do_make, "renumber": do_make,
    "change": do_make, "shelve": do_shelve, "unshelve": do_unshelve, "note": do_note, "attach": do_attach,
    "renew": do_renew, "forget": do_forget,
}


class Desk:
    """A desk, with nothing on it at first.

    Each deed is done on a twin of what is on the desk; what was there ahead of it stands beside its command, and so
    does, beside one that was undone, what was there behind it.
    """

    def __init__(self):
        self.here = Setup({}, {}, Library())
        self.standing = []
        self.undone = []

    @property
    def names(self):
        """The rising list of the names of webs."""
        return sorted(self.here.webs_named)

    @property
    def labels(self):
        """The rising list of the labels of notes."""
        return sorted(self.here.notes)

    @property
    def shelf(self):
        """The rising list of `(label, web)` for what is on the shelf."""
        shelved = self.here.library.shelved
        return [(label, kept(shelved[label].web)) for label in sorted(shelved)]

    @property
    def log(self):
        """The list of the commands of the deeds that stand."""
        return [kept(command) for command, before in self.standing]

    def web(self, name):
        """The web of this name."""
        return kept(self.here.web_at(name))

    def note(self, label):
        """The tuple of the question and the answer of a note."""
        note = self.here.note_at(label)
        return (kept(note.question), kept(note.told))

    def statement(self, label):
        """The statement of a note: the first word of its answer."""
        return self.here.note_at(label).told[0]

    def status(self, label):
        """The STATUS of a note."""
        note = self.here.note_at(label)
        names = names_in(note.question)
        if not all(name in self.here.webs_named for name in names):
            return "lost"
        webs = [self.here.webs_named[name] for name in names]
        if webs == note.webs:
            return "fresh"
        if asks_numbers(note.question):
            return "stale"
        are_alike = [first_pairing(before, web) is not None for before, web in zip(note.webs, webs)]
        return "carried" if all(are_alike) else "stale"

    def do(self, command):
        """Does a command, any value, and returns what it returns."""
        if not is_command(command):
            raise InvalidCommand(command)
        if is_desk_deed(command):
            return self.do_deed(kept(command))
        if command[0] == "ask":
            return kept(answered(self.here, command[1]).told)
        if command[0] == "same":
            return self.here.library.same(self.here.web_at(command[1]))
        return self.undo() if command[0] == "undo" else self.redo()

    def do_deed(self, command):
        """Does a deed of the desk, and returns what it returns."""
        behind = self.here.twin()
        action = ACTIONS[command[0]]
        told = action(behind, command)
        if len(self.standing) == MOST_LOGGED:
            raise TooMany("deeds", MOST_LOGGED)
        self.standing.append((command, self.here))
        self.here = behind
        self.undone = []
        return kept(told)

    def undo(self):
        """Takes back the last deed that stands, and returns its command."""
        if not self.standing:
            raise NothingToUndo()
        command, before = self.standing.pop()
        self.undone.append((command, self.here))
        self.here = before
        return kept(command)

    def redo(self):
        """Does the deed again that was taken back last, and returns its command."""
        if not self.undone:
            raise NothingToRedo()
        command, behind = self.undone.pop()
        self.standing.append((command, self.here))
        self.here = behind
        return kept(command)

    def do_all(self, commands):
        """Does the commands of a list, any values, and returns what they return; all is as it was if one fails."""
        here, standing, undone = self.here, list(self.standing), list(self.undone)
        told = []
        for place, command in enumerate(commands):
            try:
                told.append(self.do(command))
            except (TermError, MissingError, StateError, LimitError):
                self.here, self.standing, self.undone = here, standing, undone
                raise CommandFailed(place)
        return told

    def attempt(self, commands):
        """Does the commands of a list as do_all does, but afterwards all is as it was in any case."""
        here, standing, undone = self.here, list(self.standing), list(self.undone)
        told = self.do_all(commands)
        self.here, self.standing, self.undone = here, standing, undone
        return told

    @staticmethod
    def again(commands):
        """A new desk behind all commands of a LOG."""
        desk = Desk()
        for command in commands:
            desk.do(command)
        return desk
