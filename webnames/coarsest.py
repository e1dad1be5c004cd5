"""Even colourings: the coarsest one the plain way, tables, and cards of webs."""

from math import comb

from webnames.errors import NotEven, TooMany
from webnames.keys import cells_of, first_colouring, part_key
from webnames.rounds import is_even, refined, round_key

MOST_TRIED = 6


def coarsest_even(web, colouring):
    """The cells of the even finer colouring with the fewest cells, by looking at all finer ones."""
    if len(web[0]) > MOST_TRIED:
        raise TooMany("parts", MOST_TRIED)
    even = [finer for finer in all_finer(colouring) if is_even(web, finer)]
    return sorted(cells_of(min(even, key=lambda finer: len(set(finer)))))


def all_finer(colouring):
    """Colourings that are finer, one for each way to put the parts into cells."""
    found = [[]]
    for part, colour in enumerate(colouring):
        found = [row + [cell] for row in found for cell in open_cells(colouring, row, colour)]
    return found


def open_cells(colouring, row, colour):
    """The cells into which a part of this colour can be put, where row tells those of the parts in front of it.

    That is each cell with parts of this colour, and a new one.
    """
    many = max(row, default=-1) + 1
    return [cell for cell in range(many) if colouring[row.index(cell)] == colour] + [many]


def finer_many(colouring):
    """How many ways there are to put the parts into cells, each of them contained in one of the colouring's."""
    number = 1
    for cell in cells_of(colouring):
        number *= ways_to_part(len(cell))
    return number


def ways_to_part(many):
    """How many ways there are to put so many parts into cells."""
    ways = [1]
    # The last part has a cell with some of the others; the rest of them are put into cells in any way.
    for others in range(many):
        ways.append(sum([comb(others, rest) * ways[rest] for rest in range(others + 1)]))
    return ways[many]


def first_odd(web, colouring):
    """The least part whose round key is not that of the least part of its cell, None if there is none."""
    for part, colour in enumerate(colouring):
        if round_key(web, colouring, part) != round_key(web, colouring, colouring.index(colour)):
            return part
    return None


def table_of(web, colouring):
    """The table of an even colouring."""
    odd = first_odd(web, colouring)
    if odd is not None:
        raise NotEven(odd)
    return [(len(cell), counted(round_key(web, colouring, cell[0])[1])) for cell in cells_of(colouring)]


def counted(rows):
    """For each unlike tuple of a sorted list, in sequence, this tuple with its number behind it."""
    return [row + (rows.count(row),) for place, row in enumerate(rows) if row not in rows[:place]]


def card_of(web):
    """The card of the web."""
    colouring = refined(web, first_colouring(web))
    keys = [part_key(web, cell[0]) for cell in cells_of(colouring)]
    return (keys, table_of(web, colouring))
