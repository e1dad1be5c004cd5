"""Webs: what they are, what is told of them, and webs made from lists in any sequence."""

from webnames.basics import is_integer, is_number_below, is_rising, is_sign, is_tuple_of, list_sign
from webnames.errors import InvalidHand, InvalidPart, InvalidSide, InvalidTie, TakenHand, TakenSide, TakenTie, TooMany

MOST_PARTS = 24
MOST_TIES = 48
MOST_TIES_OF_A_PART = 6


def is_kind(value):
    """Whether any value is a KIND."""
    return isinstance(value, str) and 1 <= len(value) <= 4 and all("a" <= letter <= "z" for letter in value)


def is_part(value):
    """Whether any value is a PART."""
    if not is_tuple_of(value, 2) or not is_kind(value[0]):
        return False
    return is_integer(value[1]) and -9 <= value[1] <= 9


def is_order(value):
    """Whether any value is the order of a tie."""
    return is_integer(value) and 1 <= value <= 4


def are_ends(a, b, many):
    """Whether any two values are unlike numbers of parts."""
    return is_number_below(a, many) and is_number_below(b, many) and a != b


def is_web(value):
    """Whether any value is a WEB."""
    if not is_tuple_of(value, 4) or not all(isinstance(rows, list) for rows in value):
        return False
    parts, ties, hands, sides = value
    if len(parts) > MOST_PARTS or not all(is_part(part) for part in parts):
        return False
    if not has_web_ties(ties, len(parts)):
        return False
    return has_web_hands(hands, value) and has_web_sides(sides, value)


def has_web_ties(ties, many):
    """Whether a list of any values holds ties as a web of so many parts has them."""
    if len(ties) > MOST_TIES or not all(is_web_tie(tie, many) for tie in ties):
        return False
    if not is_rising([tie[:2] for tie in ties]):
        return False
    return all(len(row) <= MOST_TIES_OF_A_PART for row in near_lists(many, ties))


def is_web_tie(value, many):
    """Whether any value is a tie as a web of so many parts has it."""
    if not is_tuple_of(value, 3) or not are_ends(value[0], value[1], many):
        return False
    return value[0] < value[1] and is_order(value[2])


def has_web_hands(hands, web):
    """Whether a list of any values holds hands as a web with these parts and ties has them."""
    many = len(web[0])
    for hand in hands:
        if not is_tuple_of(hand, 2) or not is_number_below(hand[0], many):
            return False
        if not can_bear_hand(web, hand[0]) or not is_sign(hand[1]):
            return False
    return is_rising([hand[0] for hand in hands])


def has_web_sides(sides, web):
    """Whether a list of any values holds sides as a web with these parts and ties has them."""
    many = len(web[0])
    for side in sides:
        if not is_tuple_of(side, 3) or not are_ends(side[0], side[1], many) or side[0] > side[1]:
            return False
        if not can_bear_sides(web, side[0], side[1]) or not is_sign(side[2]):
            return False
    return is_rising([side[:2] for side in sides])


def near_lists(many, ties):
    """For each of so many parts the rising list of its neighbours by these ties."""
    near = [[] for part in range(many)]
    for a, b, order in ties:
        near[a].append(b)
        near[b].append(a)
    return [sorted(row) for row in near]


def neighbours(web, part):
    """The rising list of the parts with which the part has ties."""
    return sorted([a + b - part for a, b, order in web[1] if part in (a, b)])


def ties_of(web, part):
    """The rising list of `(neighbour, order, 1 with sides or 0 without)` for the ties of the part."""
    rows = [(a + b - part, order) for a, b, order in web[1] if part in (a, b)]
    return sorted([(other, order, 1 if has_sides(web, part, other) else 0) for other, order in rows])


def further(web, part, other):
    """The rising list of the neighbours of the part besides the other one."""
    return [x for x in neighbours(web, part) if x != other]


def tie_order(web, a, b):
    """The order of the tie of two parts, 0 if there is none."""
    ends = (min(a, b), max(a, b))
    for tie in web[1]:
        if tie[:2] == ends:
            return tie[2]
    return 0


def hand_sign(web, part):
    """The sign that the web tells in the hand of the part, 0 if there is none."""
    for bearer, sign in web[2]:
        if bearer == part:
            return sign
    return 0


def side_sign(web, a, b):
    """The sign that the web tells in the side of two parts, 0 if there is none."""
    ends = (min(a, b), max(a, b))
    for side in web[3]:
        if side[:2] == ends:
            return side[2]
    return 0


def has_hand(web, part):
    """Whether the part has a hand."""
    return hand_sign(web, part) != 0


def has_sides(web, a, b):
    """Whether the tie of two parts has sides."""
    return side_sign(web, a, b) != 0


def can_bear_hand(web, part):
    """Whether the part can bear a hand."""
    return len(neighbours(web, part)) in (3, 4)


def can_bear_sides(web, a, b):
    """Whether two parts have a tie that can bear sides."""
    if tie_order(web, a, b) != 2:
        return False
    return len(further(web, a, b)) in (1, 2) and len(further(web, b, a)) in (1, 2)


def hand_at(web, part, sequence):
    """The hand of the part at a sequence of all its neighbours, 0 if it has none."""
    return hand_sign(web, part) * list_sign(sequence)


def side_at(web, a, b, x, y):
    """The side of two parts at `(x, y)`, 0 if they have none."""
    sign = side_sign(web, a, b)
    if sign == 0:
        return 0
    return sign * end_turn(further(web, a, b), x) * end_turn(further(web, b, a), y)


def end_turn(beyond, x):
    """By what a side's sign is multiplied if x stands for an end with these further neighbours."""
    return 1 if x == beyond[0] else -1


def made(parts, ties, hands, sides):
    """The web that is told by these lists, in whatever sequences."""
    check_parts(parts)
    check_ties(ties, len(parts))
    near = near_lists(len(parts), ties)
    check_hands(hands, near)
    orders = {(min(a, b), max(a, b)): order for a, b, order in ties}
    check_sides(sides, near, orders)
    check_limits(near, ties)
    return (
        list(parts),
        sorted([(min(a, b), max(a, b), order) for a, b, order in ties]),
        sorted([(part, sign * list_sign(sequence)) for part, sequence, sign in hands]),
        sorted([told_side(row, near) for row in sides]),
    )


def told_side(row, near):
    """The side as a web has it that a row `(a, b, x, y, sign)` tells."""
    a, b, x, y, sign = row
    sign = sign * end_turn([z for z in near[a] if z != b], x) * end_turn([z for z in near[b] if z != a], y)
    return (min(a, b), max(a, b), sign)


def first_repeat(rows):
    """The place of the first row that is equal to an earlier one, None if there is none."""
    seen = {}
    for place, row in enumerate(rows):
        if row in seen:
            return place
        seen[row] = True
    return None


def check_parts(parts):
    """Raises InvalidPart at the first value that is no PART."""
    for place, part in enumerate(parts):
        if not is_part(part):
            raise InvalidPart(place)


def check_ties(ties, many):
    """Raises InvalidTie, then TakenTie, at the first value that is wrong."""
    for place, tie in enumerate(ties):
        if not is_tuple_of(tie, 3) or not are_ends(tie[0], tie[1], many) or not is_order(tie[2]):
            raise InvalidTie(place)
    place = first_repeat([(min(a, b), max(a, b)) for a, b, order in ties])
    if place is not None:
        raise TakenTie(place)


def check_hands(hands, near):
    """Raises InvalidHand, then TakenHand, at the first value that is wrong; near tells the neighbours."""
    for place, hand in enumerate(hands):
        if not is_told_hand(hand, near):
            raise InvalidHand(place)
    place = first_repeat([hand[0] for hand in hands])
    if place is not None:
        raise TakenHand(place)


def is_told_hand(value, near):
    """Whether any value is a hand for `made`, where near tells the neighbours of each part."""
    if not is_tuple_of(value, 3) or not is_number_below(value[0], len(near)) or not is_sign(value[2]):
        return False
    beside = near[value[0]]
    sequence = value[1]
    if len(beside) not in (3, 4) or not isinstance(sequence, (list, tuple)):
        return False
    return all(is_integer(x) for x in sequence) and sorted(sequence) == beside


def check_sides(sides, near, orders):
    """Raises InvalidSide, then TakenSide, at the first value that is wrong; orders tells those of the ties."""
    for place, side in enumerate(sides):
        if not is_told_side(side, near, orders):
            raise InvalidSide(place)
    place = first_repeat([(min(side[0], side[1]), max(side[0], side[1])) for side in sides])
    if place is not None:
        raise TakenSide(place)


def is_told_side(value, near, orders):
    """Whether any value is a side for `made`, where near and orders tell of the ties."""
    if not is_tuple_of(value, 5) or not all(is_number_below(x, len(near)) for x in value[:4]):
        return False
    a, b, x, y, sign = value
    if orders.get((min(a, b), max(a, b))) != 2 or len(near[a]) not in (2, 3) or len(near[b]) not in (2, 3):
        return False
    return x in near[a] and x != b and y in near[b] and y != a and is_sign(sign)


def check_limits(near, ties):
    """Raises TooMany if a web cannot have so many parts, so many ties, or so many ties of one part."""
    if len(near) > MOST_PARTS:
        raise TooMany("parts", MOST_PARTS)
    if len(ties) > MOST_TIES:
        raise TooMany("ties", MOST_TIES)
    if any(len(row) > MOST_TIES_OF_A_PART for row in near):
        raise TooMany("ties of a part", MOST_TIES_OF_A_PART)
