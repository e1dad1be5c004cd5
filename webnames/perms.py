"""Numberings as moves: their shapes, orders, powers and conjugates."""

from math import lcm

from webnames.basics import is_number_below
from webnames.errors import InvalidRound
from webnames.numberings import back, rounds, straight, then


def compose(many, numberings):
    """The numbering of so many parts that does those of the list one after another."""
    done = straight(many)
    for numbering in numberings:
        done = then(done, numbering)
    return done


def shape(numbering):
    """The sorted list of the lengths of the rounds."""
    return sorted([len(row) for row in rounds(numbering)])


def order_of(numbering):
    """The least exponent above 0 whose power is straight."""
    order = 1
    for length in shape(numbering):
        order = lcm(order, length)
    return order


def powers(numbering):
    """The list of all unlike powers, from power 0 on."""
    found = []
    done = list(range(len(numbering)))
    for _ in range(order_of(numbering)):
        found.append(done)
        done = then(done, numbering)
    return found


def power(numbering, exponent):
    """The power with this exponent, any INTEGER."""
    done = [0] * len(numbering)
    for row in rounds(numbering):
        for place, part in enumerate(row):
            done[part] = row[(place + exponent) % len(row)]
    return done


def from_rounds(many, rows):
    """The numbering of so many parts that moves each part of a list to the one behind it there."""
    moved = straight(many)
    stood = [False] * many
    for place, row in enumerate(rows):
        for value in row:
            if not is_number_below(value, many) or stood[value]:
                raise InvalidRound(place, value)
            stood[value] = True
        for k, part in enumerate(row):
            moved[row[k - 1]] = part
    return moved


def conjugate(numbering, by):
    """The conjugate: it moves by[i] to by[j] wherever the numbering moves i to j."""
    return then(then(back(by), numbering), by)


def conjugator(first, second):
    """A numbering by which the second one is the conjugate of the first, None if there is none."""
    if shape(first) != shape(second):
        return None
    by = [0] * len(first)
    for row, other in zip(sorted(rounds(first), key=len), sorted(rounds(second), key=len)):
        for part, place in zip(row, other):
            by[part] = place
    return by
