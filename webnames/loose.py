"""Loose symmetries, which may change signs, and their moves of settings."""

from webnames.basics import has_each_number
from webnames.handed import contrary, own_setting, seats
from webnames.mirrors import hand_parts, side_ties
from webnames.numberings import ends_led, renumbered
from webnames.strong import Keepers
from webnames.symmetric import all_symmetries

# The order that no tie of a web has stands for order 2 with sides where signs are left out.
SIDED_ORDER = 5


def is_loose(web, value):
    """Whether any value is a loose symmetry of the web."""
    if not has_each_number(value, len(web[0])):
        return False
    there = renumbered(web, value)
    return there[:2] == web[:2] and hand_parts(there) == hand_parts(web) and side_ties(there) == side_ties(web)


def signless(web):
    """What has the loose symmetries as its symmetries: the web with its hands told by parts and its sides by orders.

    It is for searches only, as it is no WEB: marks are doubled, and one more with a hand.
    """
    handed = hand_parts(web)
    sided = side_ties(web)
    parts = [(kind, 2 * mark + (1 if part in handed else 0)) for part, (kind, mark) in enumerate(web[0])]
    ties = [(a, b, SIDED_ORDER if (a, b) in sided else order) for a, b, order in web[1]]
    return (parts, ties, [], [])


def loose_symmetries(web):
    """The rising list of all loose symmetries."""
    return all_symmetries(signless(web))


def loose_makers(web):
    """A list of loose symmetries that make all of them."""
    return Keepers(signless(web), []).makers()


def seat_led(seat, numbering):
    """The SEAT to which a loose symmetry leads this one."""
    if seat[0] == "hand":
        return ("hand", numbering[seat[1]])
    return ("side",) + ends_led(seat[1], seat[2], numbering)


def move_of(web, numbering):
    """The MOVE of a loose symmetry."""
    rows = seats(web)
    places = [rows.index(seat_led(seat, numbering)) for seat in rows]
    own, there = own_setting(web), own_setting(renumbered(web, numbering))
    return (places, [sign * there[place] for sign, place in zip(own, places)])


def led_setting(move, setting):
    """The SETTING to which the MOVE leads this one."""
    there = [0] * len(setting)
    for place, turn, sign in zip(move[0], move[1], setting):
        there[place] = turn * sign
    return there


def moves(web):
    """The rising list of the MOVES of all loose symmetries, each once."""
    return unlike_moves([move_of(web, numbering) for numbering in loose_symmetries(web)])


def unlike_moves(rows):
    """The rising list of the unlike MOVES among these."""
    found = {(tuple(places), tuple(turns)): True for places, turns in rows}
    return [(list(places), list(turns)) for places, turns in sorted(found)]


def leads_own_to(web, setting):
    """Whether the MOVE of a loose symmetry leads the own setting to this one."""
    own = own_setting(web)
    return any([led_setting(move, own) == setting for move in moves(web)])


def counts_by_moves(web, seat):
    """Whether the hand or the sides at the SEAT count, told by moves."""
    own = own_setting(web)
    place = seats(web).index(seat)
    return not leads_own_to(web, own[:place] + [-own[place]] + own[place + 1:])


def is_own_mirror_by_moves(web):
    """Whether the web is its own mirror, told by moves."""
    return leads_own_to(web, contrary(web, own_setting(web)))
