"""webnames.worklists: partings step by step [57], and colours from cells [58]."""

import random
import unittest

from tests import plain
from tests.test_rounds import coloured_webs
from webnames.keys import first_colouring
from webnames.rounds import refined, singled
from webnames.worklists import Parting, coloured, even_cells, refined_fast, singled_fast


def lists_with(web, cell):
    """For each part the sorted list of `(order, 1 with sides or 0 without)` of its ties with the parts of a cell."""
    return [sorted(tie[:2] for tie in plain.ties(web, part) if tie[2] in cell) for part in range(len(web[0]))]


class Steps(unittest.TestCase):
    def check_steps(self, web, colouring):
        end = sorted(plain.cells(refined(web, colouring)))
        work = Parting(web, colouring)
        self.assertEqual(work.cell_list(), sorted(plain.cells(colouring)))
        steps = 0
        while not work.is_done:
            before = work.many
            grown = work.step()
            steps += 1
            self.assertIs(type(grown), int)
            self.assertEqual(work.many, before + grown)
            now = work.cell_list()
            self.assertEqual(len(now), work.many)
            self.assertEqual(sorted(part for cell in now for part in cell), list(range(len(web[0]))))
            for cell in now:
                self.assertEqual(len({colouring[part] for part in cell}), 1)
                within = [x for x in end if set(x) <= set(cell)]
                self.assertEqual(sum(len(x) for x in within), len(cell))
        self.assertLessEqual(steps, len(web[0]))
        self.assertEqual(work.cell_list(), end)
        self.assertEqual((work.step(), work.cell_list(), work.is_done, work.many), (0, end, True, len(end)))
        return steps

    def test_always(self):
        most = 0
        for web, colouring in coloured_webs(180):
            most = max(most, self.check_steps(web, colouring))
        self.assertGreater(most, 10)

    def test_a_first_step(self):
        # With all cells as work, one step parts each cell by the lists with one cell.
        for web, colouring in coloured_webs(181, 30):
            if colouring:
                work = Parting(web, colouring)
                work.step()
                could = []
                for taken in plain.cells(colouring):
                    lists = lists_with(web, taken)
                    keys = plain.ranks(list(zip(colouring, lists)))
                    could.append(sorted(plain.cells(keys)))
                self.assertIn(work.cell_list(), could)

    def test_is_done(self):
        work = Parting(([], [], [], []), [])
        self.assertEqual((work.is_done, work.many, work.step(), work.cell_list()), (True, 0, 0, []))
        work = Parting(plain.ring(6), [0] * 6)
        self.assertEqual((work.is_done, work.many), (False, 1))
        self.assertEqual((work.step(), work.is_done, work.many, work.step()), (0, True, 1, 0))
        # A discrete colouring has work for each of its cells.
        work = Parting(plain.row(4), [3, 0, 1, 2])
        self.assertEqual([work.step() for _ in range(4)], [0] * 4)
        self.assertIs(work.is_done, True)

    def test_lists_are_its_own(self):
        web, colouring = plain.row(4), [0, 0, 0, 0]
        work = Parting(web, colouring)
        colouring[0] = 7
        web[1].clear()
        cells = work.cell_list()
        self.assertEqual(cells, [[0, 1, 2, 3]])
        cells[0].append(9)
        cells.append([])
        self.assertEqual(work.cell_list(), [[0, 1, 2, 3]])
        while not work.is_done:
            work.step()
        self.assertEqual(work.cell_list(), [[0, 3], [1, 2]])


class ByWorkLists(unittest.TestCase):
    def test_as_by_rounds(self):
        rng = random.Random(182)
        for web, colouring in coloured_webs(183):
            end = refined(web, colouring)
            parted = sorted(plain.cells(end))
            self.assertEqual(even_cells(web, colouring), parted)
            self.assertEqual(refined_fast(web, colouring), end)
            for _ in range(3):
                rng.shuffle(parted)
                self.assertEqual(coloured(web, colouring, parted), end)
            for part in rng.sample(range(len(web[0])), min(3, len(web[0]))):
                self.assertEqual(singled_fast(web, colouring, part), singled(web, colouring, part))

    def test_many_rounds(self):
        # The colours come one round after another, the cells along the row.
        for many in (23, 24):
            web = plain.row(many)
            self.assertEqual(refined_fast(web, [0] * many), refined(web, [0] * many))
            self.assertEqual(refined_fast(web, first_colouring(web)), plain.refine(web, plain.first(web)))


if __name__ == "__main__":
    unittest.main()
