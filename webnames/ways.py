"""Ways and distances, and the bridges, cut parts and blocks of a web, the plain way and by one walk."""

from webnames.basics import are_unlike_numbers
from webnames.pieces import merged_pieces, piece_web, pieces
from webnames.webs import near_lists


def is_way(web, value):
    """Whether any value is a WAY of the web."""
    if not are_unlike_numbers(value, len(web[0])) or not value:
        return False
    near = near_lists(len(web[0]), web[1])
    return all(value[k + 1] in near[value[k]] for k in range(len(value) - 1))


def distances(web, part):
    """The list of the distances of all parts from this one, None where no way leads."""
    return distances_by(near_lists(len(web[0]), web[1]), part)


def distances_by(near, part):
    """The list of the distances from a part, where near tells the neighbours of each part."""
    found = [None] * len(near)
    found[part] = 0
    queue = [part]
    done = 0
    while done < len(queue):
        here = queue[done]
        done += 1
        for other in near[here]:
            if found[other] is None:
                found[other] = found[here] + 1
                queue.append(other)
    return found


def all_distances(web):
    """The list of the lists of distances from each part."""
    near = near_lists(len(web[0]), web[1])
    return [distances_by(near, part) for part in range(len(near))]


def least_way(web, first, last):
    """The least one of the shortest ways from first to last, None if there is none."""
    near = near_lists(len(web[0]), web[1])
    left = distances_by(near, last)
    if left[first] is None:
        return None
    way = [first]
    while way[-1] != last:
        here = way[-1]
        way.append(min([other for other in near[here] if left[other] == left[here] - 1]))
    return way


def bridges(web):
    """The tie set of the bridges, each tie taken out in turn."""
    many = len(pieces(web))
    return [place for place in range(len(web[1])) if len(pieces(without_tie(web, place))) > many]


def without_tie(web, place):
    """The parts and ties of the web but the tie at this place, as a web."""
    return (web[0], web[1][:place] + web[1][place + 1:], [], [])


def cut_parts(web):
    """The rising list of the cut parts, each part taken out in turn."""
    many = len(pieces(web))
    return [part for part in range(len(web[0])) if len(pieces(without_part(web, part))) > many]


def without_part(web, part):
    """The web of all parts but this one."""
    return piece_web(web, [other for other in range(len(web[0])) if other != part])


def blocks(web):
    """The blocks as a rising list of tie sets, by the ways between two neighbours that do not have their part."""
    labels = list(range(len(web[1])))
    for part in range(len(web[0])):
        # The ties of the part itself are gone here, so it is a piece of its own.
        others = (web[0], [tie for tie in web[1] if part not in tie[:2]], [], [])
        for piece in merged_pieces(others):
            labels = with_one_label(labels, ties_between(web, part, piece))
    return [[place for place in range(len(labels)) if labels[place] == label] for label in sorted(set(labels))]


def ties_between(web, part, piece):
    """The places of the ties of the part with parts of the piece."""
    return [place for place, tie in enumerate(web[1]) if part in tie[:2] and tie[0] + tie[1] - part in piece]


def with_one_label(labels, places):
    """The labels, with the least label of these places instead of each of them."""
    found = [labels[place] for place in places]
    return [min(found) if label in found else label for label in labels]


class Walk:
    """One walk along all ties, which goes back only where nothing new is left, and tells the blocks.

    when tells as the how many-th a part was met, from 1, 0 for none; low the earliest part that can be met from
    the part or from those met behind it, over ties that led to no new part.
    """

    def __init__(self, web):
        self.near = [[] for part in web[0]]
        for place, (a, b, order) in enumerate(web[1]):
            self.near[a].append((b, place))
            self.near[b].append((a, place))
        self.when = [0] * len(web[0])
        self.low = [0] * len(web[0])
        self.met = 0
        self.open_ties = []
        self.found = []
        for part in range(len(web[0])):
            if self.when[part] == 0:
                self.go_to(part, None)

    def go_to(self, part, came_by):
        """Meets the part, over the tie at the place came_by, and all that is new behind it."""
        self.met += 1
        self.when[part] = self.low[part] = self.met
        for other, place in self.near[part]:
            if self.when[other] == 0:
                ahead = len(self.open_ties)
                self.open_ties.append(place)
                self.go_to(other, place)
                self.low[part] = min(self.low[part], self.low[other])
                if self.low[other] >= self.when[part]:
                    self.found.append(sorted(self.open_ties[ahead:]))
                    del self.open_ties[ahead:]
            elif place != came_by and self.when[other] < self.when[part]:
                self.open_ties.append(place)
                self.low[part] = min(self.low[part], self.when[other])


def blocks_walk(web):
    """The blocks as a rising list of tie sets, by one walk."""
    return sorted(Walk(web).found)


def bridges_walk(web):
    """The tie set of the bridges, by one walk: a bridge is a block of its own."""
    return sorted([block[0] for block in Walk(web).found if len(block) == 1])


def cut_parts_walk(web):
    """The rising list of the cut parts, by one walk: they have ties of two blocks or more."""
    found = Walk(web).found
    cut = []
    for part in range(len(web[0])):
        beside = [block for block in found if any(part in web[1][place][:2] for place in block)]
        if len(beside) > 1:
            cut.append(part)
    return cut
