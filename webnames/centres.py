"""Trees, and their centres, by distances and by taking away."""

from webnames.errors import HasRing
from webnames.pieces import parts_from, pieces_by
from webnames.ways import distances_by
from webnames.webs import near_lists


def is_tree(near, piece):
    """Whether a piece is a tree, where near tells the neighbours of each part."""
    # Each tie stands with both of its ends.
    return sum([len(near[part]) for part in piece]) == 2 * (len(piece) - 1)


def is_tree_shaped(web):
    """Whether each piece of the web is a tree."""
    near = near_lists(len(web[0]), web[1])
    return all(is_tree(near, piece) for piece in pieces_by(near))


def tree_of(near, part):
    """The rising list of the parts of the part's piece: HasRing if it is no tree."""
    piece = parts_from(near, part)
    if not is_tree(near, piece):
        raise HasRing(piece[0])
    return piece


def plain_centres(web, part):
    """The rising list of the centres of the part's piece, by distances."""
    near = near_lists(len(web[0]), web[1])
    piece = tree_of(near, part)
    greatest = {}
    for other in piece:
        greatest[other] = max([x for x in distances_by(near, other) if x is not None])
    least = min(greatest.values())
    return [other for other in piece if greatest[other] == least]


def centres(web, part):
    """The rising list of the centres of the part's piece, by taking away."""
    near = near_lists(len(web[0]), web[1])
    left = {other: len(near[other]) for other in tree_of(near, part)}
    while len(left) > 2:
        outermost = [other for other, ties in left.items() if ties == 1]
        for outer in outermost:
            del left[outer]
            for beside in near[outer]:
                if beside in left:
                    left[beside] -= 1
    return sorted(left)
