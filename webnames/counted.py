"""How many webs a family has, told without making any."""

from math import comb, factorial, gcd

from webnames.basics import check_many, times
from webnames.errors import TooMany
from webnames.leastforms import part_lots, rising_numberings
from webnames.numberings import ends_led, then

MOST_PARTS_COUNTED = 7
MOST_PARTS_PLAIN = 5


def check_counted(parts, most):
    """Raises TooMany if there are more PARTS."""
    if len(parts) > most:
        raise TooMany("parts", most)


def length_lists(many, least):
    """The rising list of all rising lists of numbers from least on whose sum is many."""
    if many == 0:
        return [[]]
    found = []
    for first in range(least, many + 1):
        for rest in length_lists(many - first, first):
            found.append([first] + rest)
    return found


def cycle_kinds(many):
    """For all lists of lengths of cycles, rising, `(lengths, how many numberings of so many parts have them)`."""
    check_many(many, MOST_PARTS_COUNTED)
    return [(lengths, factorial(many) // same_lengths(lengths)) for lengths in length_lists(many, 1)]


def same_lengths(lengths):
    """How many numberings lead each cycle of a numbering with these lengths of cycles to a cycle of it, with it."""
    number = 1
    for length in sorted(set(lengths)):
        many = lengths.count(length)
        number *= times(length, many) * factorial(many)
    return number


def pair_cycles(lengths):
    """The rising list of the lengths of the cycles of pairs, for a list of lengths of cycles."""
    found = []
    for place, length in enumerate(lengths):
        found.extend([length] * ((length - 1) // 2))
        if length & 1 == 0:
            found.append(length // 2)
        for other in lengths[:place]:
            common = gcd(length, other)
            found.extend([length * other // common] * common)
    return sorted(found)


def lot_kinds(lots):
    """`(lengths, number)` for all numberings that keep each lot of so many equal PARTS, some of them equal."""
    found = [([], 1)]
    for many in lots:
        kinds = cycle_kinds(many)
        found = [(ahead + lengths, number * more) for ahead, number in found for lengths, more in kinds]
    return found


def lot_sizes(parts):
    """How often each unlike PART stands in the list, by the PARTS, rising."""
    return [parts.count(part) for part in sorted(set(parts))]


def keeping_many(lots):
    """How many numberings keep each lot of so many equal PARTS."""
    number = 1
    for many in lots:
        number *= factorial(many)
    return number


def family_count(parts, orders):
    """How many webs the family has."""
    check_counted(parts, MOST_PARTS_COUNTED)
    return count_of_lots(lot_sizes(parts), len(orders))


def count_of_lots(lots, order_many):
    """How many webs a family has whose PARTS stand so often, and that has so many orders."""
    total = 0
    for lengths, number in lot_kinds(lots):
        total += number * times(order_many + 1, len(pair_cycles(lengths)))
    return total // keeping_many(lots)


def plain_family_count(parts, orders):
    """How many webs the family has, by all numberings that keep the parts."""
    check_counted(parts, MOST_PARTS_PLAIN)
    keeping = numberings_keeping(parts)
    total = sum([times(len(orders) + 1, pair_cycle_count(numbering)) for numbering in keeping])
    return total // len(keeping)


def numberings_keeping(parts):
    """All numberings that lead each part to one with an equal PART."""
    lots = part_lots((parts, [], [], []))
    # Each of these leads the parts to one and the same rising sequence; one of them, taken back, leads on to a part.
    rising = rising_numberings(lots)
    home = [part for lot in lots for part in lot]
    return [then(numbering, home) for numbering in rising]


def pair_cycle_count(numbering):
    """The number of cycles in which the numbering leads the pairs of parts around."""
    seen = {}
    number = 0
    for b in range(len(numbering)):
        for a in range(b):
            number += 0 if (a, b) in seen else 1
            pair = (a, b)
            while pair not in seen:
                seen[pair] = True
                pair = ends_led(pair[0], pair[1], numbering)
    return number


def family_row(parts, orders):
    """The row: at place t how many webs of the family have just t ties."""
    check_counted(parts, MOST_PARTS_COUNTED)
    lots = lot_sizes(parts)
    totals = [0] * (len(parts) * (len(parts) - 1) // 2 + 1)
    for lengths, number in lot_kinds(lots):
        for ties, ways in enumerate(tie_ways(pair_cycles(lengths), len(orders), len(totals))):
            totals[ties] += number * ways
    return [total // keeping_many(lots) for total in totals]


def tie_ways(cycles, order_many, many):
    """At each of so many places how often so many pairs are tied, where a cycle of pairs has one order or no ties."""
    ways = [1] + [0] * (many - 1)
    for length in cycles:
        ways = [ways[k] + (order_many * ways[k - length] if k >= length else 0) for k in range(many)]
    return ways


def whole_count(parts, orders):
    """How many webs the whole family has."""
    check_counted(parts, MOST_PARTS_COUNTED)
    lots = lot_sizes(parts)
    if not lots:
        return 1
    bags = smaller_bags(lots)
    # For each bag of PARTS: how many bags of whole webs, of the bags of PARTS that were looked at, make it.
    made = {bag: 0 for bag in bags}
    made[bags[0]] = 1
    whole = 0
    for bag in bags[1:]:
        whole = count_of_lots(list(bag), len(orders)) - made[bag]
        made = {other: with_more(made, other, bag, whole) for other in bags}
    return whole


def smaller_bags(lots):
    """All bags of PARTS with at most so many of each, as tuples, a bag behind each one that is contained in it."""
    found = [()]
    for many in lots:
        found = [ahead + (number,) for ahead in found for number in range(many + 1)]
    return found


def with_more(made, bag, part_bag, many):
    """How many bags make this one if there are also so many webs of another bag, each as often as wanted."""
    number = 0
    rest = bag
    taken = 0
    while min(rest) >= 0:
        number += made[rest] * ways_to_take(taken, many)
        taken += 1
        rest = tuple([x - y for x, y in zip(rest, part_bag)])
    return number


def ways_to_take(taken, many):
    """In how many ways so many things can be taken out of many, each as often as wanted."""
    return comb(taken + many - 1, taken) if many > 0 else 1 if taken == 0 else 0
