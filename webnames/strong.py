"""Symmetries and pairings that keep paths, for all webs, by a search whose rounds see settled hands and sides, too.

Signs are no keys of the colourings that the document tells, so a tree of choices may have very many leaves whose
webs differ in signs alone. Here a hand or a side, once settled, parts the cells further; what is told of symmetries
and pairings does not depend on the tree by which they are found.
"""

from webnames.basics import list_sign, ranked
from webnames.keys import cells_of, first_colouring
from webnames.numberings import back, then
from webnames.paths import target_of
from webnames.prune import keepers, led, orbit_under
from webnames.rounds import ABOVE_COLOURS, set_apart
from webnames.search import Search
from webnames.webs import further, neighbours


def settled_turn(colours):
    """The sign of a list of colours, 0 if two of them are equal."""
    return list_sign(colours) if len(set(colours)) == len(colours) else 0


class StrongColours:
    """Colourings of paths of a web by rounds that look at the worths of settled hands and sides."""

    def __init__(self, web):
        self.web = web
        self.hands = [(part, sign, neighbours(web, part)) for part, sign in web[2]]
        self.sides = [(a, b, sign, further(web, a, b), further(web, b, a)) for a, b, sign in web[3]]

    def hand_codes(self, colouring):
        """For each part its hand's worth, 0 if it has none or it is not settled."""
        codes = [0] * len(colouring)
        for part, sign, beside in self.hands:
            codes[part] = sign * settled_turn([colouring[x] for x in beside])
        return codes

    def tie_codes(self, colouring):
        """For each part the sorted list of `(order, side, colour of the neighbour)` as numbers, for each of its ties.

        The side is its worth, 0 if it is not settled, and 2 if the tie has none.
        """
        worths = {}
        for a, b, sign, beyond_a, beyond_b in self.sides:
            turn = settled_turn([colouring[x] for x in beyond_a]) * settled_turn([colouring[y] for y in beyond_b])
            worths[(a, b)] = sign * turn
        codes = [[] for part in colouring]
        for a, b, order in self.web[1]:
            code = (order * 4 + worths.get((a, b), 2)) * ABOVE_COLOURS
            codes[a].append(code + colouring[b])
            codes[b].append(code + colouring[a])
        return [sorted(row) for row in codes]

    def refined(self, colouring):
        """The colouring, refined by such rounds."""
        many = -1
        while many < max(colouring, default=-1) < len(colouring) - 1:
            many = max(colouring)
            keys = list(zip(colouring, self.hand_codes(colouring), self.tie_codes(colouring)))
            colouring = ranked(keys)
        return colouring

    def opening(self, path):
        """The list of the colourings of all beginnings of the path."""
        found = [self.refined(first_colouring(self.web))]
        for part in path:
            found.append(self.beyond(found[-1], part))
        return found

    def beyond(self, colouring, part):
        """The colouring of a branch: this one, with the part set apart, refined."""
        return self.refined(set_apart(colouring, part))

    def shown(self, colouring):
        """What is compared of a path with this colouring: of each cell its size, and what one of its parts has."""
        hands, ties = self.hand_codes(colouring), self.tie_codes(colouring)
        return tuple([(len(cell), hands[cell[0]], tuple(ties[cell[0]])) for cell in cells_of(colouring)])

    def choices(self, colouring):
        """The parts that branches put behind a path with this colouring, None at a leaf.

        That is those of the target behind which the least is shown; what symmetries lead to one another is so alike.
        """
        target = target_of(colouring)
        if target is None:
            return None
        told = [self.shown(self.beyond(colouring, part)) for part in target]
        least = min(told)
        return [part for part, shown in zip(target, told) if shown == least]


def strong_search(web, path):
    """The search of a web under a path at its end, by strong colourings, however many nodes it takes."""
    search = Search(web, path)
    search.limit = None
    search.begin(StrongColours(web), path)
    while not search.has_ended():
        search.turn()
    return search


def seen_at_once(web, path):
    """What is told without a search, and is equal where a pairing leads a path to another one, part by part."""
    colours = StrongColours(web)
    return (sorted(web[0]), [colours.shown(colouring) for colouring in colours.opening(path)])


def pairing_leading(web, path, other, way):
    """A pairing of the web with the other one that leads path to way, part by part, None if there is none.

    By the best leaves below both: each part of a path has the same colour at all leaves below it.
    """
    if seen_at_once(web, path) != seen_at_once(other, way):
        return None
    first, second = strong_search(web, path), strong_search(other, way)
    if first.best_key != second.best_key:
        return None
    pairing = then(first.best_numbering(), back(second.best_numbering()))
    return pairing if [pairing[part] for part in path] == way else None


class Keepers:
    """The symmetries of a web that keep a path.

    levels has `(path, base, orbit)` for the path and for each one with the least of its choices behind it, down to
    a leaf that is left out: the orbit of the base under the symmetries that keep that path.
    """

    def __init__(self, web, path):
        self.part_count = len(web[0])
        self.path = list(path)
        self.found = strong_search(web, path).found()
        self.levels = []
        colours = StrongColours(web)
        colouring = colours.opening(path)[-1]
        here = list(path)
        choices = colours.choices(colouring)
        while choices is not None:
            base = choices[0]
            self.levels.append((here, base, orbit_under(keepers(self.found, here), base)))
            here = here + [base]
            colouring = colours.beyond(colouring, base)
            choices = colours.choices(colouring)

    def order(self):
        """How many symmetries keep the path."""
        number = 1
        for here, base, orbit in self.levels:
            number *= len(orbit)
        return number

    def members(self):
        """The sorted list of all symmetries that keep the path."""
        members = [list(range(self.part_count))]
        for here, base, orbit in reversed(self.levels):
            choices = [led(self.part_count, self.found, here, base, part) for part in orbit]
            members = [then(member, choice) for choice in choices for member in members]
        return sorted(members)

    def makers(self):
        """A list of fewer symmetries than there are parts, or none, that make all that keep the path.

        From the last level on; each one taken leads a base to where those taken so far do not lead it.
        """
        taken = []
        for here, base, orbit in reversed(self.levels):
            for part in orbit:
                if part not in orbit_under(taken, base):
                    taken.append(led(self.part_count, self.found, here, base, part))
        return taken

    def orbit(self, part):
        """The rising list of the parts to which the symmetries that keep the path lead the part."""
        return orbit_under(self.found, part)

    def leading(self, first, second):
        """A symmetry that keeps the path and leads first to second, None if there is none."""
        return led(self.part_count, self.found, self.path, first, second)
