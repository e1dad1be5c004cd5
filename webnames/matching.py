"""Matches of patterns, by tables that are narrowed, and the plain way."""

from itertools import permutations
from math import perm

from webnames.basics import mask_of
from webnames.errors import NoCandidate, StillFits, TooMany, kept
from webnames.patterns import candidates, fit_masks, is_match, let_go

MOST_TABLES = 3000
MOST_LISTS = 5040


class Sieve:
    """A table of the parts that may stand for the places of a pattern, at first all candidates."""

    def __init__(self, pattern, web):
        self.pattern = kept(pattern)
        self.web = kept(web)
        self.masks = fit_masks(pattern, web)
        self.table = candidates(pattern, web)

    def row(self, a):
        """The row of place a."""
        return list(self.table[a])

    @property
    def many(self):
        """How many parts all rows have."""
        return sum([len(row) for row in self.table])

    @property
    def is_closed(self):
        """Whether a row is empty."""
        return has_empty_row(self.table)

    @property
    def is_single(self):
        """Whether each row has one part."""
        return has_single_rows(self.table)

    def can_go(self, a, x, b):
        """Whether x is in the row of a and can go by b."""
        return x in self.table[a] and self.masks[a][b][x] & mask_of(self.table[b]) == 0

    def take(self, a, x, b):
        """Lets x go from the row of a, by b."""
        if x not in self.table[a]:
            raise NoCandidate(a, x)
        for y in self.table[b]:
            if (self.masks[a][b][x] >> y) & 1 == 1:
                raise StillFits(y)
        self.table[a].remove(x)

    def hold(self, a, x):
        """Makes the row of a x alone."""
        if x not in self.table[a]:
            raise NoCandidate(a, x)
        self.table[a] = [x]

    def narrow(self):
        """Narrows the table, and tells what went as `(a, x, b)`, in sequence."""
        return let_go(self.masks, self.table, list(range(len(self.table))))

    def twin(self):
        """Another Sieve with equal rows."""
        other = Sieve(self.pattern, self.web)
        other.table = [list(row) for row in self.table]
        return other


def has_empty_row(table):
    """Whether a row of the table is empty."""
    return any(len(row) == 0 for row in table)


def has_single_rows(table):
    """Whether each row of the table has one part."""
    return all(len(row) == 1 for row in table)


def split_place(table):
    """The place whose parts the branches of the table hold one by one, None if it has no branches."""
    if has_empty_row(table) or has_single_rows(table):
        return None
    fewest = min([len(row) for row in table if len(row) > 1])
    return [len(row) for row in table].index(fewest)


def held_table(table, place, part):
    """The table with this part alone in the row of the place, none if it is not there."""
    rows = [list(row) for row in table]
    rows[place] = [x for x in rows[place] if x == part]
    return rows


def tables_walked(pattern, web, held):
    """`(number of tables, matches)` of the tree of tables."""
    masks = fit_masks(pattern, web)
    table = candidates(pattern, web)
    for place, part in held:
        table = held_table(table, place, part)
    # A table waits with the places whose rows changed since it was narrowed.
    waiting = [(table, list(range(len(table))))]
    number = 0
    found = []
    while waiting:
        number += 1
        if number + len(waiting) - 1 > MOST_TABLES:
            raise TooMany("tables", MOST_TABLES)
        table, changed = waiting.pop()
        let_go(masks, table, changed)
        place = split_place(table)
        if place is not None:
            waiting.extend([(held_table(table, place, part), [place]) for part in table[place]])
        elif has_single_rows(table):
            found.append([row[0] for row in table])
    return (number, sorted([parts for parts in found if is_match(pattern, web, parts)]))


def matches(pattern, web, *, held=()):
    """The rising list of all matches that have part x at place a for each `(a, x)` of held."""
    return tables_walked(pattern, web, held)[1]


def table_count(pattern, web, *, held=()):
    """The number of tables of the tree."""
    return tables_walked(pattern, web, held)[0]


def matches_plain(pattern, web):
    """The rising list of all matches, by all lists of so many unlike parts."""
    if perm(len(web[0]), len(pattern[0])) > MOST_LISTS:
        raise TooMany("lists", MOST_LISTS)
    tried = [list(row) for row in permutations(range(len(web[0])), len(pattern[0]))]
    return [parts for parts in tried if is_match(pattern, web, parts)]
