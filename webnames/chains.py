"""Group papers and their judge, and what a chain tells of a group however great."""

from webnames.basics import check_many, is_number_below, is_rising, is_tuple_of
from webnames.numberings import back, straight, then
from webnames.sifting import Chain
from webnames.webs import MOST_PARTS


def group_paper(many, numberings):
    """A right group paper for the numberings."""
    check_many(many, MOST_PARTS)
    chain = Chain(many, numberings)
    levels = [[(part, level[part].step) for part in sorted(level)] for level in chain.levels]
    return (list(chain.steps), levels)


def is_group_paper(many, numberings, value):
    """Whether any value is a right group paper for the numberings."""
    check_many(many, MOST_PARTS)
    if not is_tuple_of(value, 2) or not isinstance(value[0], list) or not isinstance(value[1], list):
        return False
    meant = meant_by(many, numberings, value[0])
    if meant is None or len(value[1]) != many:
        return False
    if not all(is_level(level, k, meant) for k, level in enumerate(value[1])):
        return False
    tables = paper_tables(value[1], meant)
    return all(sifts(tables, numbering) for numbering in numberings) and is_closed_chain(tables)


def step_numbering(many, numberings, step, before):
    """The numbering for which any value stands as a step behind those that stand for before, None if for none."""
    if is_tuple_of(step, 1) and step[0] == "stay":
        return straight(many)
    if is_tuple_of(step, 2) and step[0] == "given" and is_number_below(step[1], len(numberings)):
        return list(numberings[step[1]])
    if is_tuple_of(step, 2) and step[0] == "back" and is_number_below(step[1], len(before)):
        return back(before[step[1]])
    if is_tuple_of(step, 3) and step[0] == "then" and all(is_number_below(i, len(before)) for i in step[1:]):
        return then(before[step[1]], before[step[2]])
    return None


def meant_by(many, numberings, steps):
    """The list of the numberings for which a list of any values stands as steps, None if one stands for none."""
    meant = []
    for step in steps:
        numbering = step_numbering(many, numberings, step, meant)
        if numbering is None:
            return None
        meant.append(numbering)
    return meant


def is_level(value, k, meant):
    """Whether any value is a level of a group paper for part k, where meant tells what the steps stand for."""
    if not isinstance(value, list) or not all(is_entry(entry, k, meant) for entry in value):
        return False
    if not is_rising([entry[0] for entry in value]):
        return False
    # An entry whose numbering is straight is one for k itself.
    return len(value) > 0 and is_straight(meant[value[0][1]])


def is_straight(numbering):
    """Whether a numbering leaves each part where it is."""
    return numbering == list(range(len(numbering)))


def is_entry(value, k, meant):
    """Whether any value is an entry for part k: a part, and a step that moves k there and keeps each part below k."""
    if not is_tuple_of(value, 2) or not is_number_below(value[1], len(meant)):
        return False
    numbering = meant[value[1]]
    if not is_number_below(value[0], len(numbering)) or numbering[k] != value[0]:
        return False
    return all(numbering[part] == part for part in range(k))


def paper_tables(levels, meant):
    """For each level a dict from the part of an entry to its numbering and the way back of it."""
    return [{part: (meant[step], back(meant[step])) for part, step in level} for level in levels]


def sifts(tables, numbering):
    """Whether a numbering sifts through these tables."""
    left = numbering
    for k, table in enumerate(tables):
        if left[k] != k:
            if left[k] not in table:
                return False
            left = then(left, table[left[k]][1])
    return True


def is_closed_chain(tables):
    """Whether each entry's numbering of a level, then one of that level or of a later one, sifts.

    Where one of the two is straight this is so anyway, as each entry's numbering is taken back by itself.
    """
    for k, table in enumerate(tables):
        for part in table:
            if part != k and not all(sifts(tables, product) for product in products(table[part][0], tables, k)):
                return False
    return True


def products(first, tables, k):
    """What the first numbering, then each one of level k or of a later one that is not straight, makes."""
    return [then(first, tables[j][part][0]) for j in range(k, len(tables)) for part in tables[j] if part != j]


def paper_has(many, numberings, paper, numbering):
    """Whether the numbering sifts through the paper, a right one for the numberings."""
    check_many(many, MOST_PARTS)
    steps, levels = paper
    return sifts(paper_tables(levels, meant_by(many, numberings, steps)), numbering)


def group_order(many, numberings):
    """The number of the members of the group that the numberings make."""
    check_many(many, MOST_PARTS)
    return Chain(many, numberings).order()


def is_in(many, numberings, numbering):
    """Whether the numbering is a member."""
    check_many(many, MOST_PARTS)
    return Chain(many, numberings).has(numbering)


def steps_to(many, numberings, numbering):
    """A list of steps whose last one stands for the numbering, None if it is no member."""
    check_many(many, MOST_PARTS)
    chain = Chain(many, numberings)
    level, _, passed = chain.sift(numbering)
    if level < many:
        return None
    # What was passed took the numbering back, so the entries in contrary sequence make it.
    at = passed[-1].step if passed else 0
    for entry in reversed(passed[:-1]):
        at = chain.add_step(("then", at, entry.step))
    return needed_steps(chain.steps, at)


def needed_steps(steps, last):
    """The steps that the one at place last needs, itself included, with their places told anew."""
    needed = [place == last for place in range(len(steps))]
    for place in reversed(range(last + 1)):
        if needed[place]:
            for other in places_named(steps[place]):
                needed[other] = True
    kept = []
    places = {}
    for place in range(last + 1):
        if needed[place]:
            places[place] = len(kept)
            kept.append(step_with(steps[place], places))
    return kept


def places_named(step):
    """The places of other steps that a step names."""
    return list(step[1:]) if step[0] in ("then", "back") else []


def step_with(step, places):
    """The step with these places instead of those of other steps that it names."""
    return (step[0],) + tuple([places[other] for other in places_named(step)]) if places_named(step) else step


def is_steps(many, numberings, numbering, value):
    """Whether any value is a list of steps whose last one stands for the numbering."""
    check_many(many, MOST_PARTS)
    if not isinstance(value, list) or not value:
        return False
    meant = meant_by(many, numberings, value)
    return meant is not None and meant[-1] == numbering
