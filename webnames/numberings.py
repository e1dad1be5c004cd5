"""Numberings, their signs and rounds, and webs renumbered."""

from webnames.basics import check_many, has_each_number, list_sign, ranked
from webnames.webs import MOST_PARTS, further, near_lists, neighbours


def is_numbering(value, many):
    """Whether any value is a numbering of so many parts."""
    check_many(many, MOST_PARTS)
    return has_each_number(value, many)


def straight(many):
    """The numbering that leaves each of so many parts where it is."""
    check_many(many, MOST_PARTS)
    return list(range(many))


def then(first, second):
    """The numbering that does the first, then the second."""
    return [second[x] for x in first]


def back(numbering):
    """The numbering that undoes this one."""
    home = [0] * len(numbering)
    for part, place in enumerate(numbering):
        home[place] = part
    return home


def sign_by_pairs(numbers):
    """The sign of a list of unlike INTEGERS, the plain way: by the pairs out of order."""
    return list_sign(numbers)


def sign_of(numbers):
    """The sign of a list of unlike INTEGERS, by the rounds of their ranks."""
    even = [row for row in rounds(ranked(numbers)) if len(row) & 1 == 0]
    return 1 if len(even) & 1 == 0 else -1


def rounds(numbering):
    """The sorted list of the rounds, each of which begins with its least part."""
    seen = [False] * len(numbering)
    found = []
    for first in range(len(numbering)):
        row = []
        part = first
        while not seen[part]:
            seen[part] = True
            row.append(part)
            part = numbering[part]
        if row:
            found.append(row)
    return found


def exchanges(numbering):
    """The list of the places whose value and the next one change places until the numbering is straight."""
    row = list(numbering)
    noted = []
    k = 0
    while k + 1 < len(row):
        if row[k] > row[k + 1]:
            row[k], row[k + 1] = row[k + 1], row[k]
            noted.append(k)
            # All in front of k was in order; only the value that came to k may be less than the one there.
            k = max(k - 1, 0)
        else:
            k += 1
    return noted


def renumbered(web, numbering):
    """The web renumbered."""
    parts = [web[0][part] for part in back(numbering)]
    ties = [ends_led(a, b, numbering) + (order,) for a, b, order in web[1]]
    near = near_lists(len(parts), web[1])
    hands = [(numbering[part], sign * led_sign(near[part], numbering)) for part, sign in web[2]]
    sides = []
    for a, b, sign in web[3]:
        beyond_a, beyond_b = [x for x in near[a] if x != b], [y for y in near[b] if y != a]
        turned = sign * led_sign(beyond_a, numbering) * led_sign(beyond_b, numbering)
        sides.append(ends_led(a, b, numbering) + (turned,))
    return (parts, sorted(ties), sorted(hands), sorted(sides))


def ends_led(a, b, numbering):
    """The two parts to which a numbering leads a and b, the lesser one first."""
    return (min(numbering[a], numbering[b]), max(numbering[a], numbering[b]))


def led_sign(parts, numbering):
    """The sign of the list of the parts to which a numbering leads these."""
    return list_sign([numbering[part] for part in parts])


def carried(web, numbering):
    """What a numbering carries of the web: four lists from which `made` makes the web renumbered."""
    parts = [web[0][part] for part in back(numbering)]
    ties = [(numbering[a], numbering[b], order) for a, b, order in web[1]]
    hands = [(numbering[part], [numbering[x] for x in neighbours(web, part)], sign) for part, sign in web[2]]
    sides = []
    for a, b, sign in web[3]:
        x, y = further(web, a, b)[0], further(web, b, a)[0]
        sides.append((numbering[a], numbering[b], numbering[x], numbering[y], sign))
    return (parts, ties, hands, sides)


def is_pairing(web, other, value):
    """Whether any value is a pairing of the web with the other one."""
    return has_each_number(value, len(web[0])) and renumbered(web, value) == other
