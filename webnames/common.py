"""Common lists of two webs, and all of them the plain way."""

from webnames.basics import are_unlike_numbers, is_rising, is_tuple_of
from webnames.errors import TooMany
from webnames.pieces import pieces_by
from webnames.webs import near_lists, tie_order

MOST_FOR_ALL = 4


def check_both(web, other, most):
    """Raises TooMany if one of two webs has more parts."""
    if max(len(web[0]), len(other[0])) > most:
        raise TooMany("parts", most)


def is_common(web, other, joined, value):
    """Whether any value is a COMMON LIST that is meant."""
    if not isinstance(value, list) or not all(is_tuple_of(pair, 2) for pair in value):
        return False
    firsts, seconds = [pair[0] for pair in value], [pair[1] for pair in value]
    if not are_unlike_numbers(firsts, len(web[0])) or not are_unlike_numbers(seconds, len(other[0])):
        return False
    if not is_rising(firsts) or not all(can_stand_behind(web, other, value[:k], value[k]) for k in range(len(value))):
        return False
    return not joined or is_joined(web, firsts)


def can_stand_behind(web, other, pairs, pair):
    """Whether two parts, neither of which is in a common list, make one with it."""
    a, b = pair
    if web[0][a] != other[0][b]:
        return False
    return all(tie_order(web, a, c) == tie_order(other, b, d) for c, d in pairs)


def is_joined(web, parts):
    """Whether the parts of a list of unlike ones, by the ties between them, have at most one piece."""
    place = {part: k for k, part in enumerate(parts)}
    ties = [(place[a], place[b], order) for a, b, order in web[1] if a in place and b in place]
    return len(pieces_by(near_lists(len(parts), ties))) <= 1


def all_common(web, other, joined):
    """The sorted list of all common lists that are meant."""
    check_both(web, other, MOST_FOR_ALL)
    found = [[]]
    for a in range(len(web[0])):
        longer = []
        for pairs in found:
            taken = [pair[1] for pair in pairs]
            for b in range(len(other[0])):
                if b not in taken and can_stand_behind(web, other, pairs, (a, b)):
                    longer.append(pairs + [(a, b)])
        found = found + longer
    return sorted([pairs for pairs in found if not joined or is_joined(web, [pair[0] for pair in pairs])])


def plain_size(web, other, joined):
    """The SIZE, by the list of all common lists."""
    return max([len(pairs) for pairs in all_common(web, other, joined)])
