"""Orbits of parts, rows and pairs, and paintings that are one under a group."""

from webnames.basics import check_many, times
from webnames.closing import images, way_to
from webnames.errors import TooMany
from webnames.numberings import rounds, straight
from webnames.webs import MOST_PARTS

MOST_PAINTS = 4
MOST_PAINTINGS = 5000


def orbit_of(many, numberings, part):
    """The rising list of the parts to which members move this one."""
    check_many(many, MOST_PARTS)
    return sorted([row[0] for row in images(numberings, [part], "rows")])


def orbits(many, numberings):
    """The rising list of all unlike orbits."""
    check_many(many, MOST_PARTS)
    found = []
    seen = [False] * many
    for part in range(many):
        if not seen[part]:
            orbit = orbit_of(many, numberings, part)
            found.append(orbit)
            for other in orbit:
                seen[other] = True
    return found


def orbit_paths(many, numberings, part):
    """For each part of the orbit, rising, `(it, the least of the shortest lists of places that lead there)`."""
    check_many(many, MOST_PARTS)
    came = images(numberings, [part], "rows")
    return [(row[0], way_to(came, row)) for row in sorted(came)]


def row_orbit(many, numberings, row):
    """The rising list of all unlike images of a row of parts."""
    check_many(many, MOST_PARTS)
    return sorted([list(image) for image in images(numberings, row, "rows")])


def pair_orbits(many, numberings):
    """The rising list of all orbits of pairs `(a, b)`, a < b."""
    check_many(many, MOST_PARTS)
    found = []
    seen = {}
    for a in range(many):
        for b in range(a + 1, many):
            if (a, b) not in seen:
                orbit = sorted(set([tuple(sorted(row)) for row in images(numberings, [a, b], "rows")]))
                found.append(orbit)
                for pair in orbit:
                    seen[pair] = True
    return found


def orbit_count(many, numberings):
    """The number of the orbits, by the parts that stay under each member."""
    check_many(many, MOST_PARTS)
    members = images(numberings, straight(many), "group")
    stay = [1 for member in members for part, place in enumerate(member) if part == place]
    return len(stay) // len(members)


def all_paintings(many, most):
    """The rising list of all paintings of so many parts, as tuples."""
    rows = [()]
    for _ in range(many):
        rows = [row + (paint,) for row in rows for paint in range(most)]
    return rows


def paintings(many, numberings, most):
    """The rising list of the least painting of each class of those that are one."""
    check_many(many, MOST_PARTS)
    check_many(most, MOST_PAINTS)
    if times(most, many) > MOST_PAINTINGS:
        raise TooMany("paintings", MOST_PAINTINGS)
    seen = {}
    found = []
    for painting in all_paintings(many, most):
        if painting not in seen:
            found.append(list(painting))
            see_class(seen, painting, numberings)
    return found


def see_class(seen, painting, numberings):
    """Marks as seen all paintings into which members move this one.

    A painting read by a numbering is one moved by its way back; the ways back make the same group.
    """
    seen[painting] = True
    queue = [painting]
    while queue:
        here = queue.pop()
        for numbering in numberings:
            there = tuple([here[x] for x in numbering])
            if there not in seen:
                seen[there] = True
                queue.append(there)


def painting_count(many, numberings, most):
    """The number of unlike paintings, by the rounds of each member."""
    check_many(many, MOST_PARTS)
    check_many(most, MOST_PAINTS)
    members = images(numberings, straight(many), "group")
    total = 0
    for member in members:
        total += times(most, len(rounds(member)))
    return total // len(members)
