"""Settings of hands and sides, own mirrors, and which hands and sides count."""

from webnames.basics import is_sign
from webnames.mirrors import hand_parts, mirror, side_ties, signs, turned_hand, turned_side, with_signs
from webnames.pairings import first_pairing
from webnames.webs import can_bear_hand, can_bear_sides


def seats(web):
    """The list of the SEATS: the hands, then the sides."""
    return [("hand", part) for part in hand_parts(web)] + [("side", a, b) for a, b in side_ties(web)]


def own_setting(web):
    """The SETTING with the signs that the web has."""
    hands, sides = signs(web)
    return hands + sides


def is_setting(web, value):
    """Whether any value is a SETTING of the web."""
    return isinstance(value, list) and len(value) == len(seats(web)) and all(is_sign(sign) for sign in value)


def put_setting(web, setting):
    """The web PUT the SETTING."""
    many = len(web[2])
    return with_signs(web, setting[:many], setting[many:])


def contrary(web, setting):
    """The SETTING with the other sign at each hand and the same sign at each side."""
    many = len(web[2])
    return [-sign for sign in setting[:many]] + setting[many:]


def put_hand(web, part, sign):
    """The web with this hand, instead of the one that the part may have."""
    hands = [hand for hand in web[2] if hand[0] != part]
    return (list(web[0]), list(web[1]), sorted(hands + [(part, sign)]), list(web[3]))


def put_side(web, a, b, sign):
    """The web with these sides, instead of those that the tie may have."""
    sides = [side for side in web[3] if side[:2] != (a, b)]
    return (list(web[0]), list(web[1]), list(web[2]), sorted(sides + [(a, b, sign)]))


def are_alike(web, other):
    """Whether two webs are alike."""
    return first_pairing(web, other) is not None


def is_own_mirror(web):
    """Whether the web is alike with its mirror."""
    return are_alike(web, mirror(web))


def mirror_pairing(web):
    """A pairing of the web with its mirror, None if there is none."""
    return first_pairing(web, mirror(web))


def counts_hand(web, part):
    """Whether the hand of the part counts."""
    return not are_alike(web, turned_hand(web, part))


def counts_side(web, a, b):
    """Whether the sides of the tie of a and b count."""
    return not are_alike(web, turned_side(web, a, b))


def hand_choices(web):
    """The rising list of the parts that are hand choices."""
    able = [part for part in range(len(web[0])) if can_bear_hand(web, part)]
    return [part for part in able if not are_alike(put_hand(web, part, 1), put_hand(web, part, -1))]


def side_choices(web):
    """The rising list of the ends `(a, b)` of the ties that are side choices."""
    able = [(a, b) for a, b, order in web[1] if can_bear_sides(web, a, b)]
    return [(a, b) for a, b in able if not are_alike(put_side(web, a, b, 1), put_side(web, a, b, -1))]
