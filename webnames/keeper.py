"""Keepers: webs that deeds change, with ids that stay with the parts, and with names of pieces that are kept."""

from webnames.basics import is_count
from webnames.deeds import done, numbers_of
from webnames.errors import MissingId, NothingToRedo, NothingToUndo, TooMany, kept
from webnames.pieces import piece_web, pieces
from webnames.search import quick_name

MOST_DEEDS = 500


class Standing:
    """A web with the ids of its parts, and the names of its known pieces by the rising ids of their parts."""

    def __init__(self, web, given, names_known):
        self.web = web
        self.given = given
        self.names_known = names_known

    def piece_key(self, piece):
        """What the name of a piece is kept under."""
        return tuple(sorted([self.given[part] for part in piece]))

    def names_untouched(self, deed):
        """The names that are kept of the pieces that a deed does not touch, by the same keys."""
        told = [self.given[part] for part in numbers_of(deed)]
        return {key: name for key, name in self.names_known.items() if not any([one in key for one in told])}


class Keeper:
    """A web that deeds change; what a deed was done at stands beside it, and what was there when it was undone."""

    def __init__(self, web):
        self.beginning = kept(web)
        self.here = Standing(kept(web), list(range(len(web[0]))), {})
        self.fresh_id = len(web[0])
        self.standing = []
        self.undone = []

    @property
    def first(self):
        """The web at the beginning."""
        return kept(self.beginning)

    @property
    def now(self):
        """The web."""
        return kept(self.here.web)

    @property
    def deeds(self):
        """The list of the deeds that stand."""
        return [kept(deed) for deed, before in self.standing]

    @property
    def ids(self):
        """The list of the ids, by the numbers of the parts."""
        return list(self.here.given)

    def part_of(self, given):
        """The number of the part with this id."""
        if not is_count(given) or given not in self.here.given:
            raise MissingId(given)
        return self.here.given.index(given)

    def do(self, deed):
        """Does a deed."""
        web = done(self.here.web, deed)
        if len(self.standing) == MOST_DEEDS:
            raise TooMany("deeds", MOST_DEEDS)
        given = list(self.here.given)
        if deed[0] == "put":
            given.insert(deed[1], self.fresh_id)
            self.fresh_id += 1
        elif deed[0] == "drop":
            del given[deed[1]]
        self.standing.append((kept(deed), self.here))
        self.here = Standing(web, given, self.here.names_untouched(deed))
        self.undone = []

    def undo(self):
        """Takes back the last deed that stands."""
        if not self.standing:
            raise NothingToUndo()
        deed, before = self.standing.pop()
        self.undone.append((deed, self.here))
        self.here = before

    def redo(self):
        """Takes back the last undo."""
        if not self.undone:
            raise NothingToRedo()
        deed, behind = self.undone.pop()
        self.standing.append((deed, self.here))
        self.here = behind

    def pieces(self):
        """The list of the pieces of the web."""
        return pieces(self.here.web)

    def piece_name(self, part):
        """The name of the part's piece."""
        piece = [row for row in self.pieces() if part in row][0]
        self.learn([piece])
        return self.here.names_known[self.here.piece_key(piece)]

    def piece_names(self):
        """The rising list of the names of all pieces."""
        found = self.pieces()
        self.learn(found)
        return sorted([self.here.names_known[self.here.piece_key(piece)] for piece in found])

    def learn(self, rows):
        """Makes these pieces known, all of them or, if an error is raised, none."""
        told = {}
        for piece in rows:
            key = self.here.piece_key(piece)
            if key not in self.here.names_known:
                told[key] = quick_name(piece_web(self.here.web, piece))
        self.here.names_known.update(told)

    def known(self):
        """The list of the known pieces, in the sequence of all pieces."""
        return [piece for piece in self.pieces() if self.here.piece_key(piece) in self.here.names_known]

    def name(self):
        """The NAME of the web."""
        return quick_name(self.here.web)
