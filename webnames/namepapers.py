"""Name papers and their judge."""

from webnames.basics import is_number_below, is_tuple_of
from webnames.fulltree import best_of
from webnames.numberings import is_pairing, renumbered
from webnames.paths import colourings_to, is_path, target_of
from webnames.prune import is_later, kept_orbit, led
from webnames.search import PlainColours, Search, ended_search
from webnames.webs import is_web


class Reading:
    """The paths that wait while a name paper is read or written, each with its traces and its colouring.

    They are known from the moment at which the path is the first one; until then a path waits as in a Search.
    """

    def __init__(self, web, path, best):
        self.web = web
        self.start = len(path)
        self.colours = PlainColours(web)
        self.best_traces = tuple([self.colours.shown(colouring) for colouring in colourings_to(web, best)])
        colourings = colourings_to(web, path)
        traces = tuple([self.colours.shown(colouring) for colouring in colourings])
        self.queue = [(list(path), traces, colourings[-1])]

    def waits(self):
        """Whether a path waits."""
        return len(self.queue) > 0

    def foremost(self):
        """The path that waits first."""
        return self.queue[-1][0]

    def is_first_given(self):
        """Whether the path that waits first is the given one."""
        return len(self.foremost()) == self.start

    def opened(self):
        """`(traces, colouring)` of the path that waits first."""
        path, traces, colouring = self.queue[-1]
        if not self.is_first_given():
            colouring = self.colours.beyond(colouring, path[-1])
            traces = traces + (self.colours.shown(colouring),)
        return (traces, colouring)

    def pass_over(self):
        """Takes the path that waits first away."""
        self.queue.pop()

    def go_below(self, traces, colouring):
        """Takes the path that waits first away and lets its branches wait; traces and colouring are its own."""
        path = self.queue.pop()[0]
        for part in reversed(target_of(colouring)):
            self.queue.append((path + [part], traces, colouring))


def paper_fault(web, path, form, value):
    """The fault of any value as a name paper of the web under the path, for any value form; None if it is one."""
    if not is_tuple_of(value, 2) or not isinstance(value[0], list) or not isinstance(value[1], list):
        return "shape"
    best, rows = value
    if not is_leaf_below(web, path, best):
        return "best"
    leaf_web = renumbered(web, colourings_to(web, best)[-1])
    if not is_web(form) or form != leaf_web:
        return "form"
    reading = Reading(web, path, best)
    for place, row in enumerate(rows):
        if not reading.waits() or not takes_row(reading, row, leaf_web):
            return place
    return len(rows) if reading.waits() else None


def is_leaf_below(web, path, value):
    """Whether any value is one of the leaves at or below the path."""
    if not is_path(web, value) or value[:len(path)] != path:
        return False
    colourings = colourings_to(web, value)
    for place in range(len(path), len(value)):
        if value[place] not in (target_of(colourings[place]) or []):
            return False
    return target_of(colourings[-1]) is None


def takes_row(reading, row, form):
    """Whether any value is a right row for the path that waits first, which then no longer waits."""
    if is_tuple_of(row, 3) and row[0] == "like":
        right = is_like(reading, row[1], row[2])
        reading.pass_over()
        return right
    if not is_tuple_of(row, 1) or row[0] not in ("leaf", "split", "later"):
        return False
    traces, colouring = reading.opened()
    if row[0] == "split" and target_of(colouring) is not None:
        reading.go_below(traces, colouring)
        return traces == reading.best_traces[:len(traces)]
    reading.pass_over()
    if row[0] == "later":
        return is_later(traces, reading.best_traces)
    if row[0] == "split" or target_of(colouring) is not None or traces != reading.best_traces:
        return False
    return renumbered(reading.web, colouring) >= form


def is_like(reading, part, numbering):
    """Whether any two values make a row "like" for the path that waits first."""
    if reading.is_first_given():
        return False
    path = reading.foremost()
    if not is_number_below(part, path[-1]) or not is_pairing(reading.web, reading.web, numbering):
        return False
    return numbering[part] == path[-1] and all(numbering[other] == other for other in path[:-1])


def is_pointed_paper(web, path, form, value):
    """Whether any value is a name paper of the web under the path, for any value form."""
    return paper_fault(web, path, form, value) is None


def is_name_paper(web, form, value):
    """Whether any value is a name paper of the web, for any value form."""
    return is_pointed_paper(web, [], form, value)


def pointed_paper(web, path):
    """A name paper of the web under the path, for its pointed form."""
    search = ended_search(web, path)
    return written(web, path, search.best(), search.found())


def name_paper(web):
    """A name paper of the web, for its form."""
    return pointed_paper(web, [])


def endless_paper(web):
    """A name paper of the web, for its form, however many nodes the search takes."""
    search = Search(web, [])
    search.limit = None
    while not search.has_ended():
        search.turn()
    return written(web, [], search.best(), search.found())


def plain_paper(web, path):
    """The name paper of the web under the path that has no rows "like"."""
    return written(web, path, best_of(web, path)[1][0].path, [])


def written(web, path, best, symmetries):
    """The name paper with this best leaf, one with the least key, and rows "like" by these symmetries."""
    reading = Reading(web, path, best)
    rows = []
    while reading.waits():
        like = None if reading.is_first_given() else like_row(web, reading.foremost(), symmetries)
        if like is not None:
            rows.append(like)
            reading.pass_over()
        else:
            rows.append((written_word(reading),))
    return (list(best), rows)


def written_word(reading):
    """The word of the row, with no symmetry, for the path that waits first, which then no longer waits."""
    traces, colouring = reading.opened()
    if is_later(traces, reading.best_traces):
        reading.pass_over()
        return "later"
    if target_of(colouring) is None:
        reading.pass_over()
        return "leaf"
    reading.go_below(traces, colouring)
    return "split"


def like_row(web, path, symmetries):
    """The row "like" for a path by these symmetries, None if there is none."""
    orbit = kept_orbit(symmetries, path[:-1], path[-1])
    if orbit[0] == path[-1]:
        return None
    return ("like", orbit[0], led(len(web[0]), symmetries, path[:-1], orbit[0], path[-1]))
