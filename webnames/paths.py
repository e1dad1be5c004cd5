"""Paths of the tree of choices, with their colourings and traces, their targets and branches."""

from webnames.basics import are_unlike_numbers
from webnames.keys import cells_of, first_colouring, is_discrete, trace_of
from webnames.rounds import refined_by, singled_by, tie_rows


def is_path(web, value):
    """Whether any value is a PATH of the web."""
    return are_unlike_numbers(value, len(web[0]))


def is_tree_path(web, value):
    """Whether any value is a path of the tree."""
    if not is_path(web, value):
        return False
    colourings = colourings_to(web, value)
    return all(part in (target_of(colouring) or []) for part, colouring in zip(value, colourings))


def colourings_to(web, path):
    """The list of the colourings of all beginnings of the path, from `[]` to itself."""
    rows = tie_rows(web)
    found = [refined_by(rows, first_colouring(web))]
    for part in path:
        found.append(singled_by(rows, found[-1], part))
    return found


def target_of(colouring):
    """The first cell, by colour, that has more than one part, None if there is none."""
    for cell in cells_of(colouring):
        if len(cell) > 1:
            return cell
    return None


def colouring_at(web, path):
    """The colouring of the path."""
    return colourings_to(web, path)[-1]


def cells_at(web, path):
    """The list of the cells at the path, by colour."""
    return cells_of(colouring_at(web, path))


def trace_at(web, path):
    """The trace of the path."""
    return trace_of(colouring_at(web, path))


def traces_to(web, path):
    """The list of the traces of all beginnings of the path, from `[]` to itself."""
    return [trace_of(colouring) for colouring in colourings_to(web, path)]


def is_leaf(web, path):
    """Whether each cell at the path has one part."""
    return is_discrete(colouring_at(web, path))


def target_at(web, path):
    """The target of the path, None at a leaf."""
    return target_of(colouring_at(web, path))


def branches_at(web, path):
    """The list of the branches of the path, none at a leaf."""
    return [list(path) + [part] for part in target_at(web, path) or []]


def first_leaf(web, path):
    """The leaf that is reached from the path by the first branch of each target."""
    rows = tie_rows(web)
    colouring = colouring_at(web, path)
    leaf = list(path)
    cell = target_of(colouring)
    while cell is not None:
        leaf.append(cell[0])
        colouring = singled_by(rows, colouring, cell[0])
        cell = target_of(colouring)
    return leaf


def path_led(path, numbering):
    """The path, led: with the part to which the numbering leads it in the place of each part."""
    return [numbering[part] for part in path]
