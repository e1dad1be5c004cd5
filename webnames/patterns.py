"""Patterns, their matches, and the tables of the parts that may stand for their places."""

from webnames.basics import are_unlike_numbers, is_integer, is_rising, is_tuple_of, mask_of
from webnames.errors import TooMany
from webnames.numberings import renumbered
from webnames.webs import (
    MOST_TIES_OF_A_PART, are_ends, further, hand_at, has_hand, has_web_hands, has_web_sides, is_kind, is_order,
    near_lists, neighbours, side_at, tie_order,
)

MOST_PLACES = 8
MOST_KINDS = 4


def is_pattern(value):
    """Whether any value is a PATTERN."""
    if not is_tuple_of(value, 4) or not all(isinstance(rows, list) for rows in value):
        return False
    rows, ties, hands, sides = value
    if len(rows) > MOST_PLACES or not all(is_place_row(row) for row in rows):
        return False
    if not has_pattern_ties(ties, len(rows)):
        return False
    bearing = bearing_web(value)
    return has_web_hands(hands, bearing) and has_web_sides(sides, bearing)


def is_place_row(value):
    """Whether any value tells the kinds and the mark of a place."""
    if not is_tuple_of(value, 2) or not is_rising_tuple(value[0], 0, MOST_KINDS, is_kind):
        return False
    return value[1] is None or (is_integer(value[1]) and -9 <= value[1] <= 9)


def is_rising_tuple(value, least, most, fits):
    """Whether any value is a rising tuple of unlike values that fit, at least and at most so many."""
    if not isinstance(value, tuple) or not least <= len(value) <= most:
        return False
    return all(fits(x) for x in value) and is_rising(value)


def has_pattern_ties(ties, many):
    """Whether a list of any values holds ties as a pattern of so many places has them."""
    if not all(is_pattern_tie(tie, many) for tie in ties) or not is_rising([tie[:2] for tie in ties]):
        return False
    return all(len(row) <= MOST_TIES_OF_A_PART for row in near_lists(many, ties))


def is_pattern_tie(value, many):
    """Whether any value is a tie as a pattern of so many places has it."""
    if not is_tuple_of(value, 3) or not are_ends(value[0], value[1], many) or value[0] > value[1]:
        return False
    return is_rising_tuple(value[2], 1, 4, is_order)


def bearing_web(pattern):
    """The rows and ties of a pattern as far as a web tells by them what can bear hands and sides."""
    return (pattern[0], [(a, b, 2 if 2 in orders else 1) for a, b, orders in pattern[1]], [], [])


def pattern_of(web):
    """The pattern of the web."""
    if len(web[0]) > MOST_PLACES:
        raise TooMany("parts", MOST_PLACES)
    rows = [((kind,), mark) for kind, mark in web[0]]
    return (rows, [(a, b, (order,)) for a, b, order in web[1]], list(web[2]), list(web[3]))


def renumbered_pattern(pattern, numbering):
    """The pattern, renumbered."""
    # Renumbering carries kinds, marks and orders as they are, whatever they are.
    return renumbered(pattern, numbering)


def loosened(pattern, *, kinds=False, marks=False, orders=False, senses=False):
    """The pattern with any kinds, any marks, any orders, and without hands and sides, for each that is True."""
    rows = [(() if kinds else row[0], None if marks else row[1]) for row in pattern[0]]
    ties = [(a, b, (1, 2, 3, 4) if orders else told) for a, b, told in pattern[1]]
    return (rows, ties, [] if senses else list(pattern[2]), [] if senses else list(pattern[3]))


def lets(row, part):
    """Whether the row of a place lets a PART stand there."""
    kinds, mark = row
    return (kinds == () or part[0] in kinds) and (mark is None or part[1] == mark)


def is_match(pattern, web, value):
    """Whether any value is a MATCH of the pattern in the web."""
    if not are_unlike_numbers(value, len(web[0])) or len(value) != len(pattern[0]):
        return False
    if not all(lets(row, web[0][part]) for row, part in zip(pattern[0], value)):
        return False
    if not all(tie_order(web, value[a], value[b]) in orders for a, b, orders in pattern[1]):
        return False
    return has_hands_at(pattern, web, value) and has_sides_at(pattern, web, value)


def has_hands_at(pattern, web, parts):
    """Whether the hands of the pattern are there, where each place has one of these parts, tied as they should be."""
    for a, sign in pattern[2]:
        beside = neighbours(pattern, a)
        if len(neighbours(web, parts[a])) != len(beside):
            return False
        if hand_at(web, parts[a], [parts[x] for x in beside]) != sign:
            return False
    return True


def has_sides_at(pattern, web, parts):
    """Whether the sides of the pattern are there, where each place has one of these parts, tied as they should be."""
    for a, b, sign in pattern[3]:
        x, y = further(pattern, a, b)[0], further(pattern, b, a)[0]
        if side_at(web, parts[a], parts[b], parts[x], parts[y]) != sign:
            return False
    return True


def candidates(pattern, web):
    """The table of all candidates: for each place the rising list of its candidates."""
    near = near_lists(len(web[0]), web[1])
    table = []
    for place, row in enumerate(pattern[0]):
        many = len(neighbours(pattern, place))
        handed = has_hand(pattern, place)
        found = [part for part in range(len(near)) if lets(row, web[0][part]) and len(near[part]) >= many]
        if handed:
            found = [part for part in found if len(near[part]) == many and has_hand(web, part)]
        table.append(found)
    return table


def do_fit(pattern, web, a, x, b, y):
    """Whether part x for place a and part y for place b fit."""
    if x == y:
        return False
    orders = orders_between(pattern, a, b)
    return orders is None or tie_order(web, x, y) in orders


def orders_between(pattern, a, b):
    """The orders of the tie of two places, None if they have none."""
    ends = (min(a, b), max(a, b))
    for tie in pattern[1]:
        if tie[:2] == ends:
            return tie[2]
    return None


def fit_masks(pattern, web):
    """What fits, told at once: by place a, place b and part x, the mask of the parts that fit for b with x for a."""
    many = len(web[0])
    apart = [mask_of([y for y in range(many) if y != x]) for x in range(many)]
    tied = {}
    for a, b, orders in pattern[1]:
        if orders not in tied:
            tied[orders] = [mask_of([y for y in range(many) if tie_order(web, x, y) in orders]) for x in range(many)]
    masks = [[list(apart) for place in pattern[0]] for place in pattern[0]]
    for a, b, orders in pattern[1]:
        masks[a][b] = list(tied[orders])
        masks[b][a] = list(tied[orders])
    return masks


def let_go(masks, table, changed):
    """Lets all that can go go from the table, which is changed, and tells what went as `(a, x, b)`, in sequence.

    changed: the places whose rows nothing else was compared with as yet.
    """
    filled = [mask_of(row) for row in table]
    steps = []
    waiting = list(changed)
    while waiting:
        b = waiting.pop()
        for a in range(len(table)):
            going = [x for x in table[a] if a != b and masks[a][b][x] & filled[b] == 0]
            if going:
                steps.extend([(a, x, b) for x in going])
                table[a] = [x for x in table[a] if x not in going]
                filled[a] = mask_of(table[a])
                if a not in waiting:
                    waiting.append(a)
    return steps


def narrowed(pattern, web, table):
    """The table, narrowed."""
    rows = [list(row) for row in table]
    let_go(fit_masks(pattern, web), rows, list(range(len(rows))))
    return rows
