"""Colourings: the first one of a web, and what is told of any."""

from webnames.basics import is_count, ranked
from webnames.numberings import back
from webnames.webs import has_hand, ties_of


def is_colouring(many, value):
    """Whether any value is a COLOURING of so many parts."""
    if not isinstance(value, list) or len(value) != many or not all(is_count(colour) for colour in value):
        return False
    # So many unlike colours as there are numbers up to the greatest one: none of these is left out.
    return many == 0 or len(set(value)) == max(value) + 1


def part_key(web, part):
    """The key of the part for the first colouring."""
    kind, mark = web[0][part]
    ties = ties_of(web, part)
    return (kind, mark, len(ties), 1 if has_hand(web, part) else 0, sorted([tie[1:] for tie in ties]))


def first_colouring(web):
    """The first colouring of the web, not refined."""
    return ranked([part_key(web, part) for part in range(len(web[0]))])


def cells_of(colouring):
    """The list of the cells by colour, each the rising list of its parts."""
    cells = [[] for colour in sorted(set(colouring))]
    for part, colour in enumerate(colouring):
        cells[colour].append(part)
    return cells


def trace_of(colouring):
    """The list of the sizes of the cells by colour."""
    return [len(cell) for cell in cells_of(colouring)]


def is_discrete(colouring):
    """Whether each cell has one part."""
    return len(set(colouring)) == len(colouring)


def is_finer(colouring, other):
    """Whether any two parts of one colour have one colour in the other colouring."""
    return len(set(list(zip(colouring, other)))) == len(set(colouring))


def keeps_sequence(colouring, other):
    """Whether each part of a lesser colour than a second part in the other colouring has a lesser one here."""
    for a in range(len(other)):
        for b in range(len(other)):
            if other[a] < other[b] and colouring[a] >= colouring[b]:
                return False
    return True


def colouring_led(colouring, numbering):
    """The colouring with the colour of part i at place numbering[i]."""
    return [colouring[part] for part in back(numbering)]
