"""Mirrors, bare webs, and the signs of hands and sides."""

from webnames.errors import MissingHand, MissingSide
from webnames.webs import has_hand, has_sides


def mirror(web):
    """The web with the contrary sign in each of its hands."""
    return (list(web[0]), list(web[1]), [(part, -sign) for part, sign in web[2]], list(web[3]))


def bare(web):
    """The web without its hands and sides."""
    return (list(web[0]), list(web[1]), [], [])


def turned_hand(web, part):
    """The web with the contrary sign in the hand of the part."""
    if not has_hand(web, part):
        raise MissingHand(part)
    hands = [(bearer, -sign if bearer == part else sign) for bearer, sign in web[2]]
    return (list(web[0]), list(web[1]), hands, list(web[3]))


def turned_side(web, a, b):
    """The web with the contrary sign in the side of two parts."""
    if not has_sides(web, a, b):
        raise MissingSide(a, b)
    ends = (min(a, b), max(a, b))
    sides = [(c, d, -sign if (c, d) == ends else sign) for c, d, sign in web[3]]
    return (list(web[0]), list(web[1]), list(web[2]), sides)


def hand_parts(web):
    """The rising list of the parts with a hand."""
    return [hand[0] for hand in web[2]]


def side_ties(web):
    """The rising list of the ends `(a, b)` of the ties with sides."""
    return [side[:2] for side in web[3]]


def signs(web):
    """The tuple of the list of the hands' signs and that of the sides' signs."""
    return ([hand[1] for hand in web[2]], [side[2] for side in web[3]])


def with_signs(web, hands, sides):
    """The web with these signs in its hands and its sides instead."""
    return (
        list(web[0]),
        list(web[1]),
        [(part, sign) for part, sign in zip(hand_parts(web), hands)],
        [(a, b, sign) for (a, b), sign in zip(side_ties(web), sides)],
    )
