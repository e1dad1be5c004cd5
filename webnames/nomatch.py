"""Papers that a pattern has no match in a web, and their judge."""

from webnames.basics import is_number_below, is_tuple_of, mask_of
from webnames.matching import has_empty_row, has_single_rows, held_table, matches, split_place
from webnames.patterns import candidates, fit_masks, is_match, let_go


def no_match(pattern, web):
    """A NO-MATCH PAPER, None if there is a match."""
    if matches(pattern, web):
        return None
    table = candidates(pattern, web)
    return paper_for(fit_masks(pattern, web), table, list(range(len(table))))


def paper_for(masks, table, changed):
    """The paper that is read with this table, which has no match; changed: the places whose rows are new in it."""
    rows = [list(row) for row in table]
    steps = let_go(masks, rows, changed)
    if has_empty_row(rows):
        return (steps, ("gone", [len(row) for row in rows].index(0)))
    if has_single_rows(rows):
        return (steps, ("fails",))
    place = split_place(rows)
    papers = [paper_for(masks, held_table(rows, place, part), [place]) for part in rows[place]]
    return (steps, ("split", place, papers))


def is_no_match(pattern, web, value):
    """Whether any value is a NO-MATCH PAPER."""
    return Judge(pattern, web).takes(candidates(pattern, web), value)


class Judge:
    """What goes through papers of no match of a pattern in a web."""

    def __init__(self, pattern, web):
        self.pattern = pattern
        self.web = web
        self.masks = fit_masks(pattern, web)

    def takes(self, table, value):
        """Whether any value is a right paper, read with this table."""
        if not is_tuple_of(value, 2) or not isinstance(value[0], list):
            return False
        rows = [list(row) for row in table]
        for step in value[0]:
            if not self.can_step(rows, step):
                return False
            rows[step[0]].remove(step[1])
        return self.takes_end(rows, value[1])

    def can_step(self, rows, value):
        """Whether any value is a step `(a, x, b)` by which x can go from the row of a."""
        if not is_tuple_of(value, 3):
            return False
        a, x, b = value
        if not is_number_below(a, len(rows)) or not is_number_below(b, len(rows)) or a == b:
            return False
        if not is_number_below(x, len(self.web[0])) or x not in rows[a]:
            return False
        return self.masks[a][b][x] & mask_of(rows[b]) == 0

    def takes_end(self, rows, value):
        """Whether any value is a right end, read with these rows."""
        if is_tuple_of(value, 1) and value[0] == "fails":
            return has_single_rows(rows) and not is_match(self.pattern, self.web, [row[0] for row in rows])
        if is_tuple_of(value, 2) and value[0] == "gone":
            return is_number_below(value[1], len(rows)) and len(rows[value[1]]) == 0
        if not is_tuple_of(value, 3) or value[0] != "split" or not isinstance(value[2], list):
            return False
        place = value[1]
        if not is_number_below(place, len(rows)) or len(rows[place]) < 2 or len(value[2]) != len(rows[place]):
            return False
        return all(self.takes(held_table(rows, place, x), paper) for x, paper in zip(rows[place], value[2]))
