"""How many symmetries a web has, which ones, and which parts and ties they lead to one another."""

from math import factorial

from webnames.errors import TooMany
from webnames.fulltree import walked
from webnames.numberings import back, ends_led, renumbered, then
from webnames.strong import Keepers

MOST_SYMMETRIES = 5040


def orbit_at(web, path, part):
    """The rising list of the parts to which the symmetries that keep the path lead the part."""
    return Keepers(web, path).orbit(part)


def keeping_count(web, path):
    """How many symmetries keep the path."""
    return Keepers(web, path).order()


def symmetry_count(web):
    """How many symmetries the web has."""
    return keeping_count(web, [])


def symmetries(web):
    """A list of symmetries, not more than the web has parts, that make all symmetries."""
    return Keepers(web, []).makers()


def all_symmetries(web):
    """The sorted list of all symmetries."""
    kept = Keepers(web, [])
    if kept.order() > MOST_SYMMETRIES:
        raise TooMany("symmetries", MOST_SYMMETRIES)
    return kept.members()


def symmetries_by_leaves(web):
    """The sorted list of all symmetries, by all leaves: each that has the web of the first one tells one."""
    found = walked(web, [])
    first = found[0].colouring
    told = renumbered(web, first)
    return sorted([then(first, back(leaf.colouring)) for leaf in found if renumbered(web, leaf.colouring) == told])


def part_orbits(web):
    """The rising list of the part orbits."""
    kept = Keepers(web, [])
    found = []
    for part in range(len(web[0])):
        orbit = kept.orbit(part)
        if orbit[0] == part:
            found.append(orbit)
    return found


def tie_orbits(web):
    """The rising list of the tie orbits."""
    made_by = Keepers(web, []).found
    orders = {(a, b): order for a, b, order in web[1]}
    found = []
    seen = {}
    for ends in orders:
        if ends not in seen:
            orbit = pairs_met(made_by, ends)
            for pair in orbit:
                seen[pair] = True
            found.append([pair + (orders[pair],) for pair in orbit])
    return found


def pairs_met(numberings, ends):
    """The rising list of the pairs to which rows of the numberings lead this one."""
    met = {ends: True}
    queue = [ends]
    while queue:
        a, b = queue.pop()
        for numbering in numberings:
            pair = ends_led(a, b, numbering)
            if pair not in met:
                met[pair] = True
                queue.append(pair)
    return sorted(met)


def numbering_count(web):
    """How many unlike webs are the web renumbered."""
    return factorial(len(web[0])) // symmetry_count(web)
