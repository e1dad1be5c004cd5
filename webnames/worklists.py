"""Refining by a work list of cells, and the colours of the cells that it finds."""

from webnames.basics import ranked
from webnames.keys import cells_of
from webnames.rounds import set_apart, tie_rows


class Parting:
    """Cells, and a work list of the places of some of them."""

    def __init__(self, web, colouring):
        self.rows = tie_rows(web)
        self.cells = cells_of(colouring)
        self.work = list(range(len(self.cells)))

    def step(self):
        """Takes a cell from the work list and parts all cells by it; tells how many cells more there are."""
        if not self.work:
            return 0
        before = len(self.cells)
        lists = self.lists_with(self.cells[self.work.pop()])
        for place in range(before):
            groups = groups_of(self.cells[place], lists)
            # The first of the longest ones stays; if the cell is work, it stays work with it.
            groups = sorted(groups, key=lambda group: -len(group))
            self.cells[place] = groups[0]
            for group in groups[1:]:
                self.work.append(len(self.cells))
                self.cells.append(group)
        return len(self.cells) - before

    def lists_with(self, cell):
        """For each part the sorted list of the codes of its ties with the parts of the cell."""
        lists = [[] for row in self.rows]
        for part in cell:
            for other, code in self.rows[part]:
                lists[other].append(code)
        return [sorted(row) for row in lists]

    @property
    def is_done(self):
        """Whether the work list is empty."""
        return len(self.work) == 0

    @property
    def many(self):
        """How many cells there are."""
        return len(self.cells)

    def cell_list(self):
        """The cells, each rising, as a rising list."""
        return sorted([sorted(cell) for cell in self.cells])


def groups_of(cell, lists):
    """The groups of parts of the cell that have equal lists."""
    groups = {}
    for part in cell:
        groups.setdefault(tuple(lists[part]), []).append(part)
    return list(groups.values())


def even_cells(web, colouring):
    """The cells of the refined colouring, as a rising list, by a work list."""
    work = Parting(web, colouring)
    while not work.is_done:
        work.step()
    return work.cell_list()


def coloured(web, colouring, parted):
    """The refined colouring, where parted is the list of its cells: a part of each one stands for all of them."""
    rows = tie_rows(web)
    places = [0] * len(colouring)
    for place, cell in enumerate(parted):
        for part in cell:
            places[part] = place
    colours = ranked([colouring[cell[0]] for cell in parted])
    for _ in parted:
        keys = []
        for place, cell in enumerate(parted):
            ties = sorted([code + colours[places[x]] for x, code in rows[cell[0]]])
            keys.append((colours[place], ties))
        colours = ranked(keys)
    return [colours[place] for place in places]


def refined_fast(web, colouring):
    """The colouring, refined, by a work list."""
    return coloured(web, colouring, even_cells(web, colouring))


def singled_fast(web, colouring, part):
    """The colouring, singled at the part, by a work list."""
    return refined_fast(web, set_apart(colouring, part))
