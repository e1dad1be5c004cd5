"""The least codes of trees, from the outermost parts upwards, and how many symmetries trees have."""

from itertools import permutations
from math import factorial

from webnames.centres import centres, tree_of
from webnames.lays import branch_side
from webnames.pieces import pieces
from webnames.webs import hand_at, has_sides, near_lists, tie_order


class Growing:
    """A web, with the children that a lay gives to each part, put in from the outermost parts on."""

    def __init__(self, web, near):
        self.web = web
        self.near = near
        self.lay = [[] for part in web[0]]

    def least_branch(self, part, parent, beside):
        """`(branch, count)`: the part's least branch, and how many lays of the parts behind it give that one.

        beside is a beginning of the parent's row that has a part besides this one, if there is any in the row.
        """
        told = {}
        for child in self.near[part]:
            if child != parent:
                told[child] = self.least_branch(child, part, [parent])
        row = sorted(told, key=lambda child: told[child][0])
        branches = [told[child][0] for child in row]
        hand = hand_at(self.web, part, [parent] + row)
        side = branch_side(self.web, parent, part, beside, row)
        twin = first_twin(branches)
        if twin is not None and (-hand, -side) < (hand, side):
            hand, side = -hand, -side
            row = exchanged(row, twin)
        self.lay[part] = row
        count = exchange_count(branches, hand != 0 or side != 0)
        for child in row:
            count *= told[child][1]
        kind, mark = self.web[0][part]
        return ((kind, mark, tie_order(self.web, parent, part), branches, hand, side), count)

    def rooted(self, root, row):
        """`(code, count)`: the least code with the root's children in this sequence, and how many lays give it."""
        told = [self.least_branch(child, root, row) for child in row]
        self.lay[root] = row
        count = 1
        for branch, number in told:
            count *= number
        kind, mark = self.web[0][root]
        return ((kind, mark, [branch for branch, number in told], hand_at(self.web, root, row)), count)


def first_twin(branches):
    """The first place of a branch that is equal to the next one, None if there is none."""
    for place in range(len(branches) - 1):
        if branches[place] == branches[place + 1]:
            return place
    return None


def exchanged(row, place):
    """The row with what stands at this place and at the next one exchanged."""
    return row[:place] + [row[place + 1], row[place]] + row[place + 2:]


def exchange_count(branches, is_turned):
    """How many sequences of sorted branches leave all as it is; is_turned: an exchange turns a hand or a side."""
    count = 1
    for branch in unlike_values(branches):
        count *= factorial(branches.count(branch))
    # Of the sequences of equal branches half turn it.
    return count // 2 if is_turned and count > 1 else count


def unlike_values(rows):
    """The unlike values of a sorted list, rising."""
    return [row for place, row in enumerate(rows) if place == 0 or rows[place - 1] != row]


def best_rooted(web, root):
    """`(code, count, lay)`: the code of the root, how many lays have it, and one of these lays."""
    near = near_lists(len(web[0]), web[1])
    tree_of(near, root)
    if any(has_sides(web, root, child) for child in near[root]):
        tried = [rooted_by(web, near, root, list(row)) for row in permutations(near[root])]
        least = min([told[0] for told in tried])
        best = [told for told in tried if told[0] == least]
        return (least, best[0][1] * len(best), best[0][2])
    return rooted_sorted(web, near, root)


def rooted_by(web, near, root, row):
    """`(code, count, lay)` with the children of the root in the sequence of the row."""
    growing = Growing(web, near)
    code, count = growing.rooted(root, row)
    return (code, count, growing.lay)


def rooted_sorted(web, near, root):
    """`(code, count, lay)` of a root whose ties have no sides."""
    growing = Growing(web, near)
    told = {child: growing.least_branch(child, root, near[root])[0] for child in near[root]}
    row = sorted(told, key=lambda child: told[child])
    branches = [told[child] for child in row]
    twin = first_twin(branches)
    if twin is not None and hand_at(web, root, row) == 1:
        row = exchanged(row, twin)
    code, count, lay = rooted_by(web, near, root, row)
    return (code, count * exchange_count(branches, code[3] != 0), lay)


def rooted_code(web, root):
    """The code of the root: the least one under all lays."""
    return best_rooted(web, root)[0]


def rooted_count(web, root):
    """How many symmetries of its tree, as a web of its own, keep the root."""
    return best_rooted(web, root)[1]


def least_lay(web, root):
    """A LAY with the code of the root."""
    return best_rooted(web, root)[2]


def centre_codes(web, part):
    """`(code, centre)` for each centre of the part's tree, the least one first."""
    return sorted([(rooted_code(web, centre), centre) for centre in centres(web, part)])


def tree_code(web, part):
    """The code of the part's tree."""
    return centre_codes(web, part)[0][0]


def web_code(web):
    """The code of the web: the sorted list of those of its trees."""
    return sorted([tree_code(web, piece[0]) for piece in pieces(web)])


def tree_symmetry_count(web):
    """How many symmetries a tree-shaped web has."""
    number = 1
    codes = []
    for piece in pieces(web):
        told = centre_codes(web, piece[0])
        codes.append(told[0][0])
        number *= rooted_count(web, told[0][1])
        if len(told) == 2 and told[0][0] == told[1][0]:
            number *= 2
    codes = sorted(codes)
    for code in unlike_values(codes):
        number *= factorial(codes.count(code))
    return number
