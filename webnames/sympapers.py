"""Symmetry papers and their judge, and symmetries told by the parts that are noted of them."""

from webnames.basics import is_number_below, is_tuple_of
from webnames.levels import grown_tree, is_grown_tree, spot_at
from webnames.numberings import back, is_pairing, then
from webnames.strong import Keepers


def symmetry_paper(web):
    """A SYMMETRY PAPER of the web."""
    paper = []
    here = spot_at(web, [])
    while here.target() is not None:
        base = here.target()[0]
        chosen = here.beyond(base)
        kept = Keepers(web, here.path)
        rows = []
        for part in here.target():
            numbering = kept.leading(base, part)
            if numbering is not None:
                rows.append(("to", part, numbering))
            else:
                rows.append(("apart", part, grown_tree(chosen, here.beyond(part))))
        paper.append((base, rows))
        here = chosen
    return paper


def is_symmetry_paper(web, value):
    """Whether any value is a SYMMETRY PAPER of the web."""
    if not isinstance(value, list):
        return False
    here = spot_at(web, [])
    for entry in value:
        if here.target() is None or not is_entry_at(here, entry):
            return False
        here = here.beyond(here.target()[0])
    return here.target() is None


def is_entry_at(here, value):
    """Whether any value is the tuple of a symmetry paper for the level at this Spot."""
    if not is_tuple_of(value, 2) or not isinstance(value[1], list):
        return False
    target = here.target()
    if not is_number_below(value[0], len(here.web[0])) or value[0] != target[0] or len(value[1]) != len(target):
        return False
    chosen = here.beyond(target[0])
    return all(is_row_at(here, chosen, part, row) for part, row in zip(target, value[1]))


def is_row_at(here, chosen, part, value):
    """Whether any value is the row for a part of the target at a Spot; chosen is the Spot with the base behind it."""
    if not is_tuple_of(value, 3) or not is_number_below(value[1], len(here.web[0])) or value[1] != part:
        return False
    if value[0] == "apart":
        return is_grown_tree(chosen, here.beyond(part), value[2])
    if value[0] != "to" or not is_pairing(here.web, here.web, value[2]):
        return False
    return value[2][chosen.path[-1]] == part and all(value[2][other] == other for other in here.path)


def to_rows(entry):
    """For each "to" row of a tuple of a symmetry paper, from its part to its numbering."""
    return {row[1]: row[2] for row in entry[1] if row[0] == "to"}


def paper_count(value):
    """The COUNT of a symmetry paper."""
    number = 1
    for entry in value:
        number *= len(to_rows(entry))
    return number


def sifted(web, value, numbering):
    """The list of the noted parts of the numbering, None if it falls through the symmetry paper."""
    left = numbering
    noted = []
    for entry in value:
        part = left[entry[0]]
        rows = to_rows(entry)
        if part not in rows:
            return None
        noted.append(part)
        left = then(left, back(rows[part]))
    return noted if left == list(range(len(web[0]))) else None


def from_choices(web, value, choices):
    """The symmetry whose noted parts, by the symmetry paper, are these."""
    # Sifting takes the first level's numbering back first, so it is done last here.
    symmetry = list(range(len(web[0])))
    for entry, part in reversed(list(zip(value, choices))):
        symmetry = then(symmetry, to_rows(entry)[part])
    return symmetry
