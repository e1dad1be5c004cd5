"""Single members of groups however great: by place, by what they keep, and by where they lead a row."""

from webnames.basics import check_many, is_number_below
from webnames.errors import MissingMember, TooMany
from webnames.numberings import back, straight, then
from webnames.perms import conjugate
from webnames.sifting import Chain
from webnames.webs import MOST_PARTS

MOST_MEMBERS = 5040


def all_members(many, numberings):
    """The rising list of all members, as plain_group of closing.py tells it."""
    check_many(many, MOST_PARTS)
    chain = Chain(many, numberings)
    if chain.order() > MOST_MEMBERS:
        raise TooMany("group", MOST_MEMBERS)
    members = [straight(many)]
    for level in reversed(chain.levels):
        members = [then(member, entry.numbering) for entry in list(level.values()) for member in members]
    return sorted(members)


def member_at(many, numberings, place):
    """The member at this place, any value, of the rising list of all members."""
    check_many(many, MOST_PARTS)
    chain = Chain(many, numberings)
    below = chain.order()
    if not is_number_below(place, below):
        raise MissingMember(place)
    member = straight(many)
    for level in chain.levels:
        below //= len(level)
        # Under the member so far and what later levels bring, k comes to member[part] by the entry of the part.
        part = sorted(level, key=lambda x: member[x])[place // below]
        place = place - place // below * below
        member = then(level[part].numbering, member)
    return member


def place_of(many, numberings, numbering):
    """The place of the numbering in the rising list of all members, None if it is no member."""
    check_many(many, MOST_PARTS)
    chain = Chain(many, numberings)
    if not chain.has(numbering):
        return None
    below = chain.order()
    place = 0
    member = straight(many)
    for k, level in enumerate(chain.levels):
        below //= len(level)
        lesser = [part for part in level if member[part] < numbering[k]]
        place += len(lesser) * below
        member = then(level[member.index(numbering[k])].numbering, member)
    return place


def leading_first(many, parts):
    """The numbering that leads these unlike parts to 0, 1 and so on, and the others behind them."""
    return back(parts + [part for part in range(many) if part not in parts])


def unlike_parts(row):
    """The unlike parts of a row, in the sequence in which they first stand in it."""
    return [part for place, part in enumerate(row) if part not in row[:place]]


def chain_led(many, numberings, lead):
    """The chain of the conjugates by lead: its levels take the parts in the sequence in which lead has them."""
    return Chain(many, [conjugate(numbering, lead) for numbering in numberings])


def keeping(many, numberings, parts):
    """A list of numberings that make the group of the members that keep each of these unlike parts."""
    check_many(many, MOST_PARTS)
    lead = leading_first(many, parts)
    levels = chain_led(many, numberings, lead).levels
    found = []
    for k in range(len(parts), many):
        for part in levels[k]:
            if part != k:
                found.append(conjugate(levels[k][part].numbering, back(lead)))
    return found


def keeping_order(many, numberings, parts):
    """How many members keep each of these unlike parts."""
    check_many(many, MOST_PARTS)
    return chain_led(many, numberings, leading_first(many, parts)).order(len(parts))


def least_row(many, numberings, row):
    """The least image of a row of parts."""
    check_many(many, MOST_PARTS)
    base = unlike_parts(row)
    lead = leading_first(many, base)
    home = back(lead)
    member = straight(many)
    for level in chain_led(many, numberings, lead).levels[:len(base)]:
        part = min(level, key=lambda x: home[member[x]])
        member = then(level[part].numbering, member)
    return [home[member[lead[part]]] for part in row]


def leads_to(many, numberings, row, other):
    """A member under which the image of the row is the other one, None if there is none."""
    check_many(many, MOST_PARTS)
    if len(row) != len(other):
        return None
    base = unlike_parts(row)
    lead = leading_first(many, base)
    levels = chain_led(many, numberings, lead).levels
    member = straight(many)
    for k, part in enumerate(base):
        start = back(member)[lead[other[row.index(part)]]]
        if start not in levels[k]:
            return None
        member = then(levels[k][start].numbering, member)
    leader = conjugate(member, back(lead))
    return leader if [leader[part] for part in row] == other else None
