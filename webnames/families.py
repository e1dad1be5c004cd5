"""Families: all bare webs of some parts and orders, the plain way, and grown part by part."""

from itertools import combinations

from webnames.basics import times
from webnames.counted import family_count
from webnames.errors import TooMany
from webnames.leastforms import least_by_parts
from webnames.pieces import pieces
from webnames.search import quick_form
from webnames.writer import name_text

MOST_PARTS_CHOSEN = 4
MOST_CHOICES = 5000
MOST_PARTS_GROWN = 5
MOST_WEBS = 1000


def all_choices(parts, orders):
    """The rising list of all webs with these parts in which each pair has no tie or one of the orders."""
    if len(parts) > MOST_PARTS_CHOSEN:
        raise TooMany("parts", MOST_PARTS_CHOSEN)
    pairs = [tuple(pair) for pair in combinations(range(len(parts)), 2)]
    if times(len(orders) + 1, len(pairs)) > MOST_CHOICES:
        raise TooMany("choices", MOST_CHOICES)
    rows = [[]]
    for a, b in pairs:
        rows = [row + more for row in rows for more in tie_choices(a, b, orders)]
    return sorted([(list(parts), row, [], []) for row in rows])


def tie_choices(a, b, orders):
    """The lists of ties that a pair can have: none, or one of one of the orders."""
    return [[]] + [[(a, b, order)] for order in orders]


def is_whole_web(web):
    """Whether the web is WHOLE."""
    return len(pieces(web)) <= 1


def plain_family(parts, orders, is_whole):
    """The family as a rising list, the plain way: alike ones are told by the least of their renumbered webs."""
    leasts = {}
    for web in all_choices(parts, orders):
        least = least_by_parts(web)
        leasts[name_text(least)] = least
    return sorted([quick_form(web) for web in leasts.values() if not is_whole or is_whole_web(web)])


def grown(web, part, orders):
    """The rising list of all webs that a bare web makes with a part behind its parts, tied in each way."""
    many = len(web[0])
    rows = [[]]
    for a in range(many):
        rows = [row + more for row in rows for more in tie_choices(a, many, orders)]
    return sorted([(web[0] + [part], sorted(web[1] + row), [], []) for row in rows])


def family(parts, orders, is_whole):
    """The family as a rising list, part by part: of alike webs one is kept, by its form."""
    check_family(parts, orders)
    found = [([], [], [], [])]
    for part in sorted(parts):
        forms = {}
        for web in found:
            for more in grown(web, part, orders):
                form = quick_form(more)
                forms[name_text(form)] = form
        found = list(forms.values())
    return sorted([web for web in found if not is_whole or is_whole_web(web)])


def check_family(parts, orders):
    """Raises TooMany if the family is too great to be made."""
    if len(parts) > MOST_PARTS_GROWN:
        raise TooMany("parts", MOST_PARTS_GROWN)
    if len(parts) == MOST_PARTS_GROWN and len(orders) > 1:
        raise TooMany("parts", MOST_PARTS_CHOSEN)
    if family_count(parts, orders) > MOST_WEBS:
        raise TooMany("webs", MOST_WEBS)


def is_of_family(parts, orders, is_whole, web):
    """Whether the web is of the family."""
    if sorted(web[0]) != sorted(parts) or web[2] or web[3]:
        return False
    return all(tie[2] in orders for tie in web[1]) and (not is_whole or is_whole_web(web))
