"""Deeds: changes of webs, what is lost by them, deeds renumbered, and rows of deeds that lead from web to web."""

from webnames.basics import is_integer, is_number_below, is_sign, list_sign
from webnames.errors import CannotDo, kept
from webnames.handed import put_hand, put_side
from webnames.mirrors import hand_parts, side_ties
from webnames.webs import (
    MOST_PARTS, MOST_TIES, MOST_TIES_OF_A_PART, can_bear_sides, end_turn, further, hand_sign, has_hand, has_sides,
    is_kind, is_order, neighbours, side_sign, tie_order,
)

GREATEST_NUMBER = 99
MOST_DEEDS = 200

# For each word what stands behind it in a deed.
SHAPES = {
    "put": ("place", "kind", "mark"),
    "drop": ("part",),
    "kind": ("part", "kind"),
    "mark": ("part", "mark"),
    "tie": ("part", "part", "order"),
    "untie": ("part", "part"),
    "order": ("part", "part", "order"),
    "hand": ("part", "row", "sign"),
    "bare": ("part",),
    "side": ("part", "part", "part", "part", "sign"),
    "flat": ("part", "part"),
}


def is_told_number(value):
    """Whether any value is a number of a part, or a place, as a deed tells it."""
    return is_number_below(value, GREATEST_NUMBER + 1)


def is_mark(value):
    """Whether any value is a mark."""
    return is_integer(value) and -9 <= value <= 9


def is_told_row(value):
    """Whether any value is a row of neighbours as a deed tells it."""
    if not isinstance(value, list) or len(value) not in (3, 4) or not all(is_told_number(x) for x in value):
        return False
    return len(set(value)) == len(value)


def is_fit(what, value):
    """Whether any value is what a deed needs where this word stands."""
    if what in ("place", "part"):
        return is_told_number(value)
    if what == "row":
        return is_told_row(value)
    if what == "kind":
        return is_kind(value)
    if what == "mark":
        return is_mark(value)
    return is_order(value) if what == "order" else is_sign(value)


def is_deed(value):
    """Whether any value is a DEED."""
    if not isinstance(value, tuple) or not value or not isinstance(value[0], str) or value[0] not in SHAPES:
        return False
    shape = SHAPES[value[0]]
    if len(value) != len(shape) + 1 or not all(is_fit(what, x) for what, x in zip(shape, value[1:])):
        return False
    return shape[:2] != ("part", "part") or value[1] != value[2]


def numbers_of(deed):
    """The list of the numbers of parts that a deed tells."""
    found = []
    for what, x in zip(SHAPES[deed[0]], deed[1:]):
        if what == "part":
            found.append(x)
        elif what == "row":
            found.extend(x)
    return found


def with_numbers(deed, numbers):
    """The deed with numbers[i] for each number i of a part that it tells."""
    told = [deed[0]]
    for what, x in zip(SHAPES[deed[0]], deed[1:]):
        told.append(numbers[x] if what == "part" else [numbers[y] for y in x] if what == "row" else x)
    return tuple(told)


def can_do(web, deed):
    """Whether the deed can be done at the web."""
    many = len(web[0])
    word = deed[0]
    if word == "put":
        return deed[1] <= many < MOST_PARTS
    if not all(x < many for x in numbers_of(deed)):
        return False
    if word == "tie":
        return can_tie(web, deed[1], deed[2])
    if word in ("untie", "order"):
        return tie_order(web, deed[1], deed[2]) != 0
    if word == "hand":
        return sorted(deed[2]) == neighbours(web, deed[1])
    if word == "bare":
        return has_hand(web, deed[1])
    if word == "side":
        return can_put_sides(web, deed[1], deed[2], deed[3], deed[4])
    return word != "flat" or has_sides(web, deed[1], deed[2])


def can_tie(web, a, b):
    """Whether a tie of two parts can be made."""
    if tie_order(web, a, b) != 0 or len(web[1]) == MOST_TIES:
        return False
    return max(len(neighbours(web, a)), len(neighbours(web, b))) < MOST_TIES_OF_A_PART


def can_put_sides(web, a, b, x, y):
    """Whether the tie of a and b can bear sides, at x and y."""
    return can_bear_sides(web, a, b) and x in further(web, a, b) and y in further(web, b, a)


def check_can_do(web, deed):
    """Raises CannotDo unless the deed can be done at the web."""
    if not can_do(web, deed):
        raise CannotDo(deed)


def lost(web, deed):
    """The tuple of the rising lists of the web's hands and of its sides that are lost by the deed."""
    check_can_do(web, deed)
    touched = parts_with_other_ties(web, deed)
    hands = [hand for hand in web[2] if hand[0] in touched]
    sides = [side for side in web[3] if side[0] in touched or side[1] in touched]
    if deed[0] == "order" and deed[3] != tie_order(web, deed[1], deed[2]):
        sides = [side for side in web[3] if side[:2] == ends_of(deed)]
    return (hands, sides)


def ends_of(deed):
    """The two parts that a deed tells first, the lesser one first."""
    return (min(deed[1], deed[2]), max(deed[1], deed[2]))


def parts_with_other_ties(web, deed):
    """The parts of which the deed makes or takes a tie."""
    if deed[0] in ("tie", "untie"):
        return [deed[1], deed[2]]
    if deed[0] == "drop" and neighbours(web, deed[1]):
        return [deed[1]] + neighbours(web, deed[1])
    return []


def done(web, deed):
    """The web with the deed done."""
    hands, sides = lost(web, deed)
    left = (
        list(web[0]), list(web[1]),
        [hand for hand in web[2] if hand not in hands], [side for side in web[3] if side not in sides],
    )
    action = ACTIONS[deed[0]]
    return action(left, deed)


def done_put(web, deed):
    """The web with a part put."""
    word, place, kind, mark = deed
    moved = moved_by(web, [part if part < place else part + 1 for part in range(len(web[0]))])
    return (web[0][:place] + [(kind, mark)] + web[0][place:],) + moved


def done_drop(web, deed):
    """The web with a part dropped, whose hand, and all sides beside which, are gone."""
    gone = deed[1]
    left = (web[0], [tie for tie in web[1] if gone not in tie[:2]], web[2], web[3])
    moved = moved_by(left, [part if part < gone else part - 1 for part in range(len(web[0]))])
    return (web[0][:gone] + web[0][gone + 1:],) + moved


def moved_by(web, numbers):
    """The tuple of the ties, hands and sides of the web with numbers[i] for part i; the numbers keep the sequence."""
    return (
        [(numbers[a], numbers[b], order) for a, b, order in web[1]],
        [(numbers[a], sign) for a, sign in web[2]],
        [(numbers[a], numbers[b], sign) for a, b, sign in web[3]],
    )


def done_part(web, deed):
    """The web with another kind or another mark of a part."""
    kind, mark = web[0][deed[1]]
    part = (deed[2], mark) if deed[0] == "kind" else (kind, deed[2])
    return (web[0][:deed[1]] + [part] + web[0][deed[1] + 1:],) + web[1:]


def done_tie(web, deed):
    """The web with a tie made, taken, or made one of another order."""
    ties = [tie for tie in web[1] if tie[:2] != ends_of(deed)]
    if deed[0] != "untie":
        ties.append(ends_of(deed) + (deed[3],))
    return (web[0], sorted(ties)) + web[2:]


def done_hand(web, deed):
    """The web with a hand put."""
    return put_hand(web, deed[1], deed[3] * list_sign(deed[2]))


def done_bare(web, deed):
    """The web with a hand taken."""
    return (web[0], web[1], [hand for hand in web[2] if hand[0] != deed[1]], web[3])


def done_side(web, deed):
    """The web with sides put."""
    word, a, b, x, y, sign = deed
    sign = sign * end_turn(further(web, a, b), x) * end_turn(further(web, b, a), y)
    return put_side(web, min(a, b), max(a, b), sign)


def done_flat(web, deed):
    """The web with sides taken."""
    return web[:3] + ([side for side in web[3] if side[:2] != ends_of(deed)],)


ACTIONS = {
    "put": done_put, "drop": done_drop, "kind": done_part, "mark": done_part, "tie": done_tie, "untie": done_tie,
    "order": done_tie, "hand": done_hand, "bare": done_bare, "side": done_side, "flat": done_flat,
}


def done_all(web, deeds):
    """The web with all deeds of a list done in sequence."""
    web = kept(web)
    for deed in deeds:
        web = done(web, deed)
    return web


def renumbered_deed(deed, numbering):
    """The deed, renumbered."""
    return with_numbers(deed, numbering)


def numbering_behind(deed, numbering):
    """The numbering behind a deed that is done and renumbered."""
    if deed[0] == "put":
        place = deed[1]
        raised = [x + 1 if x >= place else x for x in numbering]
        return raised[:place] + [place] + raised[place:]
    if deed[0] == "drop":
        gone = numbering[deed[1]]
        rest = numbering[:deed[1]] + numbering[deed[1] + 1:]
        return [x - 1 if x > gone else x for x in rest]
    return list(numbering)


def back_row(web, deed):
    """A list of DEEDS that makes the web done the web."""
    there = done(web, deed)
    row = ties_back(web, deed)
    return row + dressing(done_all(there, row), web)


def ties_back(web, deed):
    """A list of DEEDS that gives back the parts and ties which a deed took or changed, and takes those that it made."""
    word = deed[0]
    if word == "put":
        return [("drop", deed[1])]
    if word == "drop":
        kind, mark = web[0][deed[1]]
        return [("put", deed[1], kind, mark)] + [("tie",) + tie for tie in web[1] if deed[1] in tie[:2]]
    if word in ("kind", "mark"):
        return [(word, deed[1], web[0][deed[1]][0 if word == "kind" else 1])]
    if word == "tie":
        return [("untie", deed[1], deed[2])]
    if word == "untie":
        return [("tie", deed[1], deed[2], tie_order(web, deed[1], deed[2]))]
    if word == "order":
        return [("order", deed[1], deed[2], tie_order(web, deed[1], deed[2]))]
    return []


def dressing(web, other):
    """A list of DEEDS that gives the web, which has the same parts and ties, the hands and sides of the other one."""
    row = []
    for part in hand_parts(web):
        if not has_hand(other, part):
            row.append(("bare", part))
    for part, sign in other[2]:
        if hand_sign(web, part) != sign:
            row.append(("hand", part, neighbours(other, part), sign))
    for a, b in side_ties(web):
        if not has_sides(other, a, b):
            row.append(("flat", a, b))
    for a, b, sign in other[3]:
        if side_sign(web, a, b) != sign:
            row.append(("side", a, b, further(other, a, b)[0], further(other, b, a)[0], sign))
    return row


def row_between(web, other):
    """A list of at most 192 DEEDS that makes the web the other one.

    These are at most 48 for kinds and marks, 48 that untie, and 4 for each part of the other web: for its hand and
    for the half of its ties and of their sides. Only parts of at most 3 ties bear sides, so no part has more.
    """
    row = parts_row(web, other)
    row = row + ties_row(done_all(web, row), other)
    return row + dressing(done_all(web, row), other)


def parts_row(web, other):
    """A list of DEEDS that gives the web the parts of the other one."""
    many, far_many = len(web[0]), len(other[0])
    row = [("drop", part) for part in reversed(range(far_many, many))]
    for part, (kind, mark) in enumerate(web[0][:far_many]):
        if other[0][part][0] != kind:
            row.append(("kind", part, other[0][part][0]))
        if other[0][part][1] != mark:
            row.append(("mark", part, other[0][part][1]))
    return row + [("put", part) + other[0][part] for part in range(many, far_many)]


def ties_row(web, other):
    """A list of DEEDS that gives the web, which has the same parts, the ties of the other one."""
    row = [("untie", a, b) for a, b, order in web[1] if tie_order(other, a, b) == 0]
    for a, b, order in other[1]:
        here = tie_order(web, a, b)
        if here == 0:
            row.append(("tie", a, b, order))
        elif here != order:
            row.append(("order", a, b, order))
    return row


def leads(web, other, value):
    """Whether any value is a list of at most 200 DEEDS that makes the web the other one."""
    if not isinstance(value, list) or len(value) > MOST_DEEDS or not all(is_deed(deed) for deed in value):
        return False
    for deed in value:
        if not can_do(web, deed):
            return False
        web = done(web, deed)
    return web == other
