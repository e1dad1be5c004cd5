"""All pairings of two webs, by trying all numberings and by colours."""

from itertools import permutations

from webnames.basics import check_many
from webnames.errors import TooMany
from webnames.numberings import is_pairing, then
from webnames.strong import Keepers, pairing_leading

MOST_FOR_PLAIN = 7
MOST_PAIRINGS = 5040


def all_numberings(many):
    """The rising list of all numberings of so many parts."""
    check_many(many, MOST_FOR_PLAIN)
    return [list(row) for row in permutations(range(many))]


def all_pairings(web, other):
    """The rising list of all pairings of the web with the other one, each numbering tried."""
    if max(len(web[0]), len(other[0])) > MOST_FOR_PLAIN:
        raise TooMany("parts", MOST_FOR_PLAIN)
    return [numbering for numbering in all_numberings(len(web[0])) if is_pairing(web, other, numbering)]


def by_colours(web, other):
    """The rising list of all pairings of the web with the other one, for all webs.

    One pairing is found by colours; all are "first a symmetry of the web, then this one", each once.
    """
    pairing = first_pairing(web, other)
    if pairing is None:
        return []
    kept = Keepers(web, [])
    if kept.order() > MOST_PAIRINGS:
        raise TooMany("pairings", MOST_PAIRINGS)
    return sorted([then(symmetry, pairing) for symmetry in kept.members()])


def first_pairing(web, other):
    """A pairing of the web with the other one, None if there is none."""
    return pairing_leading(web, [], other, [])
