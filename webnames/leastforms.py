"""Least webs by trying numberings, and lists that every renumbering leaves as they are."""

from itertools import permutations
from math import factorial

from webnames.errors import TooMany
from webnames.keys import cells_of, first_colouring, trace_of
from webnames.numberings import renumbered
from webnames.pairings import all_numberings
from webnames.rounds import refined
from webnames.ways import all_distances
from webnames.webs import ties_of

MOST_FOR_LEAST = 7
MOST_FOR_ALIKE = 6
MOST_TRIED = 5040
WORDS = ("parts", "ties", "hands", "sides", "colours", "tables", "distances")


def check_parts_many(web, most):
    """Raises TooMany if the web has more parts."""
    if len(web[0]) > most:
        raise TooMany("parts", most)


def least_of_all(web):
    """The least web of a web, by trying all numberings."""
    check_parts_many(web, MOST_FOR_LEAST)
    return min([renumbered(web, numbering) for numbering in all_numberings(len(web[0]))])


def least_by_parts(web):
    """The least web of a web, by trying the numberings that bring its parts into rising sequence."""
    lots = part_lots(web)
    many = 1
    for lot in lots:
        many *= factorial(len(lot))
    if many > MOST_TRIED:
        raise TooMany("numberings", MOST_TRIED)
    return min([renumbered(web, numbering) for numbering in rising_numberings(lots)])


def part_lots(web):
    """For each unlike PART, rising, the list of the parts that are equal to it."""
    return [[k for k, other in enumerate(web[0]) if other == part] for part in sorted(set(web[0]))]


def rising_numberings(lots):
    """The numberings that lead the parts of each lot, in every sequence, to places behind those of earlier lots."""
    sequences = [[]]
    for lot in lots:
        orders = [list(row) for row in permutations(lot)]
        sequences = [ahead + row for ahead in sequences for row in orders]
    found = []
    for sequence in sequences:
        numbering = [0] * len(sequence)
        for place, part in enumerate(sequence):
            numbering[part] = place
        found.append(numbering)
    return found


def least_numberings(web):
    """The rising list of all numberings by which the web becomes its least web."""
    least = least_of_all(web)
    return [numbering for numbering in all_numberings(len(web[0])) if renumbered(web, numbering) == least]


def all_alike(web):
    """The rising list of all unlike webs that are the web renumbered."""
    check_parts_many(web, MOST_FOR_ALIKE)
    found = []
    for other in sorted([renumbered(web, numbering) for numbering in all_numberings(len(web[0]))]):
        if not found or found[-1] != other:
            found.append(other)
    return found


def invariants(web):
    """The tuple of seven lists that every renumbering leaves as they are."""
    colouring = refined(web, first_colouring(web))
    return (
        sorted(web[0]),
        sorted([(order,) + part_pair(web, a, b) for a, b, order in web[1]]),
        sorted([web[0][part] for part, sign in web[2]]),
        sorted([part_pair(web, a, b) for a, b, sign in web[3]]),
        trace_of(colouring),
        colour_tables(web, colouring),
        sorted([sorted([x for x in row if x is not None]) for row in all_distances(web)]),
    )


def part_pair(web, a, b):
    """The PARTS of two parts, the lesser one first."""
    return (min(web[0][a], web[0][b]), max(web[0][a], web[0][b]))


def colour_tables(web, colouring):
    """For each colour the sorted list of `(order, 1 with sides or 0 without, colour of the neighbour)` of its ties."""
    found = []
    for cell in cells_of(colouring):
        found.append(sorted([(order, sided, colouring[x]) for x, order, sided in ties_of(web, cell[0])]))
    return found


def parted_by(web, other):
    """The first word whose invariants of two webs are unlike, None if there is none."""
    for word, first, second in zip(WORDS, invariants(web), invariants(other)):
        if first != second:
            return word
    return None
