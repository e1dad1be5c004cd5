"""Views of paths, apart trees, and the levels below a path."""

from webnames.basics import is_tuple_of
from webnames.paths import colouring_at, first_leaf, target_of
from webnames.rounds import singled_by, tie_rows
from webnames.strong import pairing_leading, settled_turn
from webnames.webs import further, hand_sign, neighbours, side_sign


def view(web, path):
    """The VIEW of the path."""
    return view_by(web, path, colouring_at(web, path))


def view_by(web, path, colouring):
    """The VIEW of the path, whose colouring is this one."""
    hands = [(colouring[part], hand_worth(web, colouring, part)) for part, sign in web[2]]
    sides = [colour_pair(colouring, a, b) + (side_worth(web, colouring, a, b),) for a, b, sign in web[3]]
    return (
        [colouring[part] for part in path],
        sorted([(colouring[part], kind, mark) for part, (kind, mark) in enumerate(web[0])]),
        sorted([colour_pair(colouring, a, b) + (order,) for a, b, order in web[1]]),
        sorted([row for row in hands if row[-1] != 0]),
        sorted([row for row in sides if row[-1] != 0]),
    )


def colour_pair(colouring, a, b):
    """The colours of two parts, the lesser one first."""
    return (min(colouring[a], colouring[b]), max(colouring[a], colouring[b]))


def hand_worth(web, colouring, part):
    """The worth of the hand of the part, 0 if it has none or it is not settled."""
    return hand_sign(web, part) * settled_turn([colouring[x] for x in neighbours(web, part)])


def side_worth(web, colouring, a, b):
    """The worth of the sides of two parts, 0 if they have none or these are not settled."""
    turn = settled_turn([colouring[x] for x in further(web, a, b)])
    return side_sign(web, a, b) * turn * settled_turn([colouring[y] for y in further(web, b, a)])


def settled_hand(web, path, part):
    """The worth of the hand of the part in the path's colouring, 0 if it has none or it is not settled."""
    return hand_worth(web, colouring_at(web, path), part)


def settled_sides(web, path, a, b):
    """The worth of the sides of two parts in the path's colouring, 0 if there are none or they are not settled."""
    return side_worth(web, colouring_at(web, path), a, b)


def leading(web, path, other, way):
    """A pairing of the web with the other one that leads path to way, part by part, None if there is none."""
    return pairing_leading(web, path, other, way)


class Spot:
    """A path of a web with its colouring and its VIEW."""

    def __init__(self, web, rows, path, colouring):
        self.web = web
        self.rows = rows
        self.path = path
        self.colouring = colouring
        self.told = view_by(web, path, colouring)

    def target(self):
        """The target of the path, None at a leaf."""
        return target_of(self.colouring)

    def beyond(self, part):
        """The path with the part behind it."""
        return Spot(self.web, self.rows, self.path + [part], singled_by(self.rows, self.colouring, part))


def spot_at(web, path):
    """The Spot of the path."""
    return Spot(web, tie_rows(web), list(path), colouring_at(web, path))


def apart_tree(web, path, other, way):
    """The APART TREE, None if there is none."""
    first, second = spot_at(web, path), spot_at(other, way)
    if first.told != second.told:
        return ("view",)
    if pairing_leading(web, path, other, way) is not None:
        return None
    return grown_tree(first, second)


def grown_tree(first, second):
    """The APART TREE of two Spots that no pairing leads to one another."""
    if first.told != second.told:
        return ("view",)
    chosen = first.beyond(first.target()[0])
    return ("split", [grown_tree(chosen, second.beyond(part)) for part in second.target()])


def is_apart_tree(web, path, other, way, value):
    """Whether any value is the APART TREE."""
    return is_grown_tree(spot_at(web, path), spot_at(other, way), value)


def is_grown_tree(first, second, value):
    """Whether any value is the APART TREE of two Spots."""
    if first.told != second.told:
        return is_tuple_of(value, 1) and value[0] == "view"
    if first.target() is None or not is_tuple_of(value, 2) or value[0] != "split" or not isinstance(value[1], list):
        return False
    targets = second.target()
    if len(value[1]) != len(targets):
        return False
    chosen = first.beyond(first.target()[0])
    return all(is_grown_tree(chosen, second.beyond(part), tree) for part, tree in zip(targets, value[1]))


def level_path(web, path):
    """The last level below the path, a leaf."""
    return first_leaf(web, path)
