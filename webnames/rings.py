"""Rings: what they are, the ties that they have, and all of them to a length."""

from webnames.basics import are_unlike_numbers, check_many, is_number_below, is_rising
from webnames.errors import TooMany
from webnames.pieces import pieces
from webnames.ways import distances, without_tie
from webnames.webs import MOST_PARTS, near_lists

MOST_RINGS = 500
MOST_PLAIN_TIES = 10


def is_ring(web, value):
    """Whether any value is a RING of the web."""
    if not are_unlike_numbers(value, len(web[0])) or len(value) < 3:
        return False
    near = near_lists(len(web[0]), web[1])
    if not all(value[k] in near[value[k - 1]] for k in range(len(value))):
        return False
    return value[0] == min(value) and value[1] < value[-1]


def is_tie_set(web, value):
    """Whether any value is a TIE SET of the web."""
    if not isinstance(value, list) or not all(is_number_below(place, len(web[1])) for place in value):
        return False
    return is_rising(value)


def ring_form(parts):
    """The RING through these parts in this sequence, wherever it begins and whichever way round."""
    start = parts.index(min(parts))
    ring = parts[start:] + parts[:start]
    return ring if ring[1] < ring[-1] else ring[:1] + ring[:0:-1]


def ring_ties(web, ring):
    """The tie set of the ties that the ring has."""
    places = {tie[:2]: place for place, tie in enumerate(web[1])}
    ends = [(min(ring[k - 1], ring[k]), max(ring[k - 1], ring[k])) for k in range(len(ring))]
    return sorted([places[pair] for pair in ends])


def ring_of(web, tie_set):
    """The ring that has just these ties, None if there is none."""
    near = near_lists(len(web[0]), [web[1][place] for place in tie_set])
    parts = [part for part in range(len(near)) if near[part]]
    if not parts or any(len(near[part]) != 2 for part in parts):
        return None
    ring = parts[:1]
    here = near[parts[0]][0]
    while here != ring[0]:
        first, second = near[here]
        came_from = ring[-1]
        ring.append(here)
        here = second if first == came_from else first
    return ring if len(ring) == len(parts) else None


def rings_to(web, many):
    """All rings of at most this length, rising by `(length, ring)`."""
    check_many(many, MOST_PARTS)
    near = near_lists(len(web[0]), web[1])
    found = []
    for first in range(len(near)):
        for second in near[first]:
            if second > first:
                go_round(near, [first, second], many, found)
    return sorted_rings(found)


def sorted_rings(rings):
    """The rings rising by `(length, ring)`."""
    return [ring for length, ring in sorted([(len(ring), ring) for ring in rings])]


def go_round(near, way, many, found):
    """Puts all rings of at most this length that begin with the way behind what was found.

    It goes on only where some ring begins with the way, so each few turns bring a ring or the bound.
    """
    if not comes_home(near, way, many):
        return
    if len(way) > 2 and way[0] in near[way[-1]] and way[-1] > way[1]:
        if len(found) == MOST_RINGS:
            raise TooMany("rings", MOST_RINGS)
        found.append(list(way))
    for part in near[way[-1]]:
        if part > way[0] and part not in way:
            go_round(near, way + [part], many, found)


def comes_home(near, way, many):
    """Whether some ring of at most this length begins with the way.

    Its last part is a neighbour of the first one and greater than the second one; its other parts are greater
    than the first one and not in the way.
    """
    steps = {way[-1]: len(way)}
    queue = [way[-1]]
    done = 0
    while done < len(queue):
        here = queue[done]
        done += 1
        if steps[here] > many:
            return False
        if steps[here] > 2 and way[0] in near[here] and here > way[1]:
            return True
        for part in near[here]:
            if part > way[0] and part not in way and part not in steps:
                steps[part] = steps[here] + 1
                queue.append(part)
    return False


def rings_plain(web, many):
    """The list of rings_to, out of all tie sets."""
    check_many(many, MOST_PARTS)
    if len(web[1]) > MOST_PLAIN_TIES:
        raise TooMany("ties", MOST_PLAIN_TIES)
    tie_sets = [[]]
    for place in range(len(web[1])):
        tie_sets = tie_sets + [tie_set + [place] for tie_set in tie_sets]
    rings = [ring_of(web, tie_set) for tie_set in tie_sets if len(tie_set) <= many]
    return sorted_rings([ring for ring in rings if ring is not None])


def ring_rank(web):
    """The RANK of the web."""
    return len(web[1]) - len(web[0]) + len(pieces(web))


def ring_through(web, place):
    """The least length of the rings that have the tie at this place, None if there is none."""
    a, b = web[1][place][:2]
    without = distances(without_tie(web, place), a)[b]
    return None if without is None else without + 1
