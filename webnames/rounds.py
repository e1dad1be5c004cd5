"""Rounds: refining a colouring, and singling a part."""

from webnames.basics import check_many, ranked
from webnames.webs import ties_of

DEEPEST = 3
# More than the colour of any part of a web.
ABOVE_COLOURS = 32


def round_key(web, colouring, part):
    """The key of the part for a round."""
    return (colouring[part], sorted([(order, sided, colouring[x]) for x, order, sided in ties_of(web, part)]))


def one_round(web, colouring):
    """The colouring after a round."""
    return round_by(tie_rows(web), colouring)


def is_even(web, colouring):
    """Whether any two parts of one colour have equal round keys."""
    return one_round(web, colouring) == colouring


def tie_rows(web):
    """For each part `(neighbour, code)` for each of its ties.

    Codes stand to one another as `(order, 1 with sides or 0 without)`; with a colour added, as this with the
    colour behind it.
    """
    sided = {side[:2]: True for side in web[3]}
    rows = [[] for part in web[0]]
    for a, b, order in web[1]:
        code = (order * 2 + (1 if (a, b) in sided else 0)) * ABOVE_COLOURS
        rows[a].append((b, code))
        rows[b].append((a, code))
    return rows


def round_by(rows, colouring):
    """The colouring after a round, where rows is what `tie_rows` tells of the web.

    Keys of unlike colours stand as the colours do, so each cell is ranked by itself.
    """
    cells = [[] for colour in range(max(colouring) + 1)] if colouring else []
    for part, colour in enumerate(colouring):
        cells[colour].append(part)
    after = [0] * len(colouring)
    many = 0
    for cell in cells:
        if len(cell) == 1:
            after[cell[0]] = many
            many += 1
        else:
            ranks = ranked([sorted([code + colouring[x] for x, code in rows[part]]) for part in cell])
            for part, rank in zip(cell, ranks):
                after[part] = many + rank
            many += max(ranks) + 1
    return after


def rounds_by(rows, colouring):
    """The list of the colouring and those after each round, up to the first one that is even."""
    found = [colouring]
    # Where each part has a colour of its own a round changes nothing.
    while colouring and max(found[-1]) < len(colouring) - 1:
        after = round_by(rows, found[-1])
        if after == found[-1]:
            break
        found.append(after)
    return found


def refined_by(rows, colouring):
    """The colouring, refined, where rows is what `tie_rows` tells of the web."""
    return rounds_by(rows, colouring)[-1]


def set_apart(colouring, part):
    """The colouring in which the part goes ahead of all others of its cell."""
    return ranked([(colour, 0 if other == part else 1) for other, colour in enumerate(colouring)])


def singled_by(rows, colouring, part):
    """The colouring, singled at the part, where rows is what `tie_rows` tells of the web."""
    return refined_by(rows, set_apart(colouring, part))


def rounds_of(web, colouring):
    """The list of the colouring and those after each round, up to the first one that is even."""
    return rounds_by(tie_rows(web), list(colouring))


def refined(web, colouring):
    """The colouring, refined."""
    return refined_by(tie_rows(web), list(colouring))


def singled(web, colouring, part):
    """The colouring, singled at the part."""
    return singled_by(tie_rows(web), colouring, part)


def apart_after(web, colouring, a, b):
    """After how many rounds two parts have unlike colours for the first time, None if they never do."""
    for many, found in enumerate(rounds_of(web, colouring)):
        if found[a] != found[b]:
            return many
    return None


def unfolding(web, colouring, part, many):
    """The unfolding of the part, so many deep."""
    check_many(many, DEEPEST)
    if many == 0:
        return (colouring[part], [])
    found = []
    for x, order, sided in ties_of(web, part):
        found.append((order, sided, unfolding(web, colouring, x, many - 1)))
    return (colouring[part], sorted(found))
