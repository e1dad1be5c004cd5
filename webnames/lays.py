"""Lays of trees, and their codes the plain way."""

from itertools import permutations
from math import factorial

from webnames.centres import tree_of
from webnames.errors import TooMany
from webnames.ways import distances_by
from webnames.webs import hand_at, near_lists, side_at, tie_order

MOST_LAYS = 5040


def parents(web, root):
    """A list with each part's parent, None for the root and for parts of other pieces."""
    near = near_lists(len(web[0]), web[1])
    tree = tree_of(near, root)
    away = distances_by(near, root)
    found = [None] * len(web[0])
    for part in tree:
        for other in near[part]:
            if away[other] < away[part]:
                found[part] = other
    return found


def child_lists(web, root):
    """For each part the rising list of its children."""
    found = [[] for part in web[0]]
    for part, parent in enumerate(parents(web, root)):
        if parent is not None:
            found[parent].append(part)
    return found


def lay_count(web, root):
    """The number of lays."""
    number = 1
    for row in child_lists(web, root):
        number *= factorial(len(row))
    return number


def lays(web, root):
    """The rising list of all lays."""
    if lay_count(web, root) > MOST_LAYS:
        raise TooMany("lays", MOST_LAYS)
    found = [[]]
    for row in child_lists(web, root):
        orders = [list(order) for order in permutations(row)]
        found = [ahead + [order] for ahead in found for order in orders]
    return [[list(row) for row in lay] for lay in found]


def lay_code(web, root, lay):
    """The code under a LAY."""
    kind, mark = web[0][root]
    branches = [branch(web, child, lay[root], lay, root) for child in lay[root]]
    return (kind, mark, branches, hand_at(web, root, lay[root]))


def branch(web, part, beside, lay, parent):
    """The branch of a part under a LAY, where beside is the row of its parent."""
    kind, mark = web[0][part]
    row = [parent] + lay[part]
    branches = [branch(web, child, row, lay, part) for child in lay[part]]
    side = branch_side(web, parent, part, beside, lay[part])
    return (kind, mark, tie_order(web, parent, part), branches, hand_at(web, part, row), side)


def branch_side(web, parent, part, beside, children):
    """The side of the tie of a part with its parent, at the first ones of the parent's row and of the children."""
    others = [x for x in beside if x != part]
    # A tie with sides has further neighbours at both ends.
    if not others or not children:
        return 0
    return side_at(web, parent, part, others[0], children[0])


def plain_codes(web, root):
    """The list of the codes under all lays."""
    return [lay_code(web, root, lay) for lay in lays(web, root)]


def plain_code(web, root):
    """The least code under all lays."""
    return min(plain_codes(web, root))


def plain_count(web, root):
    """How many lays have the least code."""
    codes = plain_codes(web, root)
    return codes.count(min(codes))
