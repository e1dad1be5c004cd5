"""The pruned search for the least key of the leaves below a path, and forms, names and pairings by it."""

from webnames.basics import is_count
from webnames.errors import InvalidMany, TooMany
from webnames.keys import trace_of
from webnames.numberings import back, renumbered, then
from webnames.paths import colourings_to, target_of
from webnames.prune import is_later, spared_at
from webnames.rounds import singled_by, tie_rows
from webnames.writer import name_text

MOST_NODES = 130000


class PlainColours:
    """The colourings of paths of a web, and what is compared of them."""

    def __init__(self, web):
        self.web = web
        self.rows = tie_rows(web)

    def opening(self, path):
        """The list of the colourings of all beginnings of the path."""
        return colourings_to(self.web, path)

    def beyond(self, colouring, part):
        """The colouring of a branch: this one, singled at the part."""
        return singled_by(self.rows, colouring, part)

    def shown(self, colouring):
        """What is compared of a path with this colouring: its trace."""
        return tuple(trace_of(colouring))

    def choices(self, colouring):
        """The parts that branches put behind a path with this colouring, None at a leaf: its target."""
        return target_of(colouring)


class Search:
    """The search of a web under a path, turn by turn.

    A path waits as `(path, traces, colouring, known)`: the traces of its beginnings but itself, the colouring in
    front of it, and how many symmetries were found when its beginning was not spared. The given path waits with
    its own traces and its own colouring.
    """

    def __init__(self, web, path, most=MOST_NODES):
        if not is_count(most) or not 1 <= most <= MOST_NODES:
            raise InvalidMany(most)
        self.web = (list(web[0]), list(web[1]), list(web[2]), list(web[3]))
        self.start = len(path)
        self.limit = most
        self.node_count = 0
        self.symmetries_found = []
        # The colouring of each leaf that was seen, by its key in tuples.
        self.seen = {}
        self.known_rows = {}
        self.best_key = None
        self.best_path = None
        self.begin(PlainColours(self.web), path)

    def begin(self, colours, path):
        """Lets the given path wait, with colourings by these colours."""
        self.colours = colours
        colourings = colours.opening(path)
        traces = tuple([colours.shown(colouring) for colouring in colourings])
        self.queue = [(list(path), traces, colourings[-1], 0)]

    def turn(self):
        """Does one turn, and tells its word and its path; None if the search has ended."""
        if not self.queue:
            return None
        path, traces, colouring, known = self.queue[-1]
        if self.is_spared(path, known):
            self.queue.pop()
            return ("spared", list(path))
        if self.node_count == self.limit:
            raise TooMany("nodes", self.limit)
        self.queue.pop()
        self.node_count += 1
        if len(path) > self.start:
            colouring = self.colours.beyond(colouring, path[-1])
            traces = traces + (self.colours.shown(colouring),)
        return (self.visit(path, traces, colouring), list(path))

    def is_spared(self, path, known):
        """Whether the path is spared, where known tells how many symmetries its beginning was looked at with."""
        if known == len(self.symmetries_found):
            # Nothing new spares the beginning, so only the last place is left.
            return spared_at(self.symmetries_found, path, max(self.start, len(path) - 1)) is not None
        return spared_at(self.symmetries_found, path, self.start) is not None

    def visit(self, path, traces, colouring):
        """The word of a turn at a path that is not spared, and what the turn changes."""
        if self.best_key is not None and is_later(traces, self.best_key[0]):
            return "later"
        choices = self.colours.choices(colouring)
        if choices is None:
            return self.visit_leaf(path, traces, colouring)
        known = len(self.symmetries_found)
        self.queue.extend([(path + [part], traces, colouring, known) for part in reversed(choices)])
        return "split"

    def visit_leaf(self, path, traces, colouring):
        """The word of a turn at a leaf, and what the turn changes."""
        told = renumbered(self.web, colouring)
        # Equal rows are kept once, as very many leaves may be seen.
        key = (traces, tuple([tuple([self.known_rows.setdefault(row, row) for row in rows]) for rows in told]))
        if key in self.seen:
            self.symmetries_found.append(then(self.seen[key], back(colouring)))
            return "found"
        self.seen[key] = colouring
        if self.best_key is None or key < self.best_key:
            self.best_key = key
            self.best_path = path
        return "leaf"

    def best(self):
        """The path of the best leaf so far, None if there is none."""
        return None if self.best_path is None else list(self.best_path)

    def found(self):
        """The list of the found symmetries, in the sequence in which they came."""
        return [list(numbering) for numbering in self.symmetries_found]

    def waiting(self):
        """The list of the waiting paths."""
        return [list(row[0]) for row in reversed(self.queue)]

    def nodes(self):
        """How many nodes there were."""
        return self.node_count

    def has_ended(self):
        """Whether no path waits."""
        return len(self.queue) == 0

    def best_numbering(self):
        """The colouring of the best leaf."""
        return list(self.seen[self.best_key])


def ended_search(web, path):
    """The search of a web under a path at its end: TooMany beyond 130,000 nodes."""
    search = Search(web, path)
    while not search.has_ended():
        search.turn()
    return search


def searched(web, path):
    """The tuple `(best, found, nodes)` of the search under the path at its end."""
    search = ended_search(web, path)
    return (search.best(), search.found(), search.nodes())


def quick_pointed(web, path):
    """The pointed form of the web under the path."""
    return renumbered(web, ended_search(web, path).best_numbering())


def quick_form(web):
    """The FORM of the web."""
    return quick_pointed(web, [])


def quick_name(web):
    """The NAME of the web."""
    return name_text(quick_form(web))


def quick_numbering(web):
    """The colouring of the best leaf, by which the web becomes its form."""
    return ended_search(web, []).best_numbering()


def quick_pairing(web, other):
    """A pairing of the web with the other one, None if they are not alike."""
    first, second = ended_search(web, []), ended_search(other, [])
    if first.best_key != second.best_key:
        return None
    return then(first.best_numbering(), back(second.best_numbering()))
