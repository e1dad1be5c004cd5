"""All leaves of the tree of choices, with their webs and keys."""

from webnames.errors import NoLeaf, TooMany
from webnames.keys import is_discrete, trace_of
from webnames.numberings import back, renumbered, then
from webnames.paths import colouring_at, colourings_to, target_of
from webnames.rounds import singled_by, tie_rows

MOST_LEAVES = 5040


class Leaf:
    """A leaf with the traces of all beginnings of its path, and with its colouring."""

    def __init__(self, path, traces, colouring):
        self.path = path
        self.traces = traces
        self.colouring = colouring


def walked(web, path):
    """The list of the Leaves at or below the path, their paths rising."""
    rows = tie_rows(web)
    colourings = colourings_to(web, path)
    traces = [trace_of(colouring) for colouring in colourings]
    found = []
    # A path waits with the traces of all its beginnings but itself, and with the colouring in front of it.
    waiting = branches_of(list(path), traces, colourings[-1])
    if not waiting:
        return [Leaf(list(path), traces, colourings[-1])]
    while waiting:
        here, ahead, colouring = waiting.pop()
        colouring = singled_by(rows, colouring, here[-1])
        traces = ahead + [trace_of(colouring)]
        branches = branches_of(here, traces, colouring)
        if not branches:
            if len(found) == MOST_LEAVES:
                raise TooMany("leaves", MOST_LEAVES)
            found.append(Leaf(here, traces, colouring))
        waiting.extend(branches)
    return found


def branches_of(path, traces, colouring):
    """The branches of the path as they wait, the greatest one first; none at a leaf."""
    target = target_of(colouring) or []
    return [(path + [part], traces, colouring) for part in reversed(target)]


def leaves_below(web, path):
    """The sorted list of all leaves at or below the path."""
    return [leaf.path for leaf in walked(web, path)]


def leaves(web):
    """The sorted list of all leaves of the tree."""
    return leaves_below(web, [])


def checked_colourings(web, path):
    """The colourings of all beginnings of a leaf: NoLeaf if the path is none."""
    colourings = colourings_to(web, path)
    if not is_discrete(colourings[-1]):
        raise NoLeaf(path)
    return colourings


def leaf_web(web, path):
    """The leaf's web."""
    return renumbered(web, checked_colourings(web, path)[-1])


def key_of_leaf(web, path):
    """The key of the leaf."""
    colourings = checked_colourings(web, path)
    return ([trace_of(colouring) for colouring in colourings], renumbered(web, colourings[-1]))


def key_of(web, leaf):
    """The key of a Leaf, in lists of its own."""
    return ([list(trace) for trace in leaf.traces], renumbered(web, leaf.colouring))


def best_of(web, path):
    """`(key, leaves)`: the least key of the leaves at or below the path, and the Leaves that have it."""
    found = walked(web, path)
    # Traces go first in keys, so only the webs of those with the least traces are needed.
    traces = min([leaf.traces for leaf in found])
    found = [leaf for leaf in found if leaf.traces == traces]
    webs = [renumbered(web, leaf.colouring) for leaf in found]
    least = min(webs)
    return (([list(trace) for trace in traces], least), [leaf for leaf, told in zip(found, webs) if told == least])


def least_key(web, path):
    """The least key of the leaves at or below the path."""
    return best_of(web, path)[0]


def best_leaves(web, path):
    """The sorted list of the leaves at or below the path that have the least key."""
    return [leaf.path for leaf in best_of(web, path)[1]]


def with_numbers(rows):
    """For each unlike value of a list that Python sorts, rising, `(value, how often it stands there)`."""
    found = []
    for row in sorted(rows):
        if found and found[-1][0] == row:
            found[-1] = (row, found[-1][1] + 1)
        else:
            found.append((row, 1))
    return found


def key_counts(web):
    """For each key of a leaf, rising, `(key, how many leaves have it)`."""
    return with_numbers([key_of(web, leaf) for leaf in walked(web, [])])


def tree_profile(web):
    """The profile: for the traces of leaves, rising, `(traces, how many leaves have them)`."""
    return with_numbers([[list(trace) for trace in leaf.traces] for leaf in walked(web, [])])


def leaf_with(web, numbering):
    """The leaf of the tree whose colouring is the numbering, None if there is none."""
    rows = tie_rows(web)
    colouring = colouring_at(web, [])
    path = []
    target = target_of(colouring)
    while target is not None:
        # The part that a branch singles has the first place of the target at each leaf below.
        ahead = len([colour for colour in colouring if colour < colouring[target[0]]])
        part = numbering.index(ahead)
        if part not in target:
            return None
        path.append(part)
        colouring = singled_by(rows, colouring, part)
        target = target_of(colouring)
    return path if colouring == numbering else None


def leaf_symmetry(web, path, far):
    """The symmetry that leads each part to the one with its colour at the other leaf, None if there is none."""
    first = checked_colourings(web, path)[-1]
    second = checked_colourings(web, far)[-1]
    if renumbered(web, first) != renumbered(web, second):
        return None
    return then(first, back(second))
