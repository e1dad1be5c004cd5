"""States of two webs, bounds of what common lists come of them, and greatest common lists by these."""

from webnames.common import check_both
from webnames.pieces import parts_from
from webnames.webs import near_lists, tie_order

MOST_FOR_SIZES = 8


def part_class(web, parts, part):
    """The CLASS of a part beside a list of parts."""
    kind, mark = web[0][part]
    return (kind, mark, [tie_order(web, part, other) for other in parts])


def class_key(web, parts, part):
    """The CLASS of a part beside a list of parts, so that it can be a key."""
    kind, mark, orders = part_class(web, parts, part)
    return (kind, mark, tuple(orders))


class State:
    """A STATE of two webs.

    lots has, for each class of a part that is left, the rising lists of the parts that are left and have it, in the
    first web and in the second one.
    """

    def __init__(self, rows, far_rows, pairs, many, lots):
        self.rows = rows
        self.far_rows = far_rows
        self.pairs = pairs
        self.decided = many
        self.lots = lots

    def bound(self):
        """The BOUND."""
        return len(self.pairs) + sum([min(len(firsts), len(seconds)) for firsts, seconds in self.lots])

    def is_whole(self):
        """Whether all parts of the first web are decided."""
        return self.decided == len(self.rows)

    def candidates(self):
        """The parts of the second web that are left and have the class of the first part of the first web left."""
        for firsts, seconds in self.lots:
            if self.decided in firsts:
                return list(seconds)
        return []

    def passed(self):
        """The state in which the first part left is decided, and is in no pair."""
        lots = [([a for a in firsts if a != self.decided], seconds) for firsts, seconds in self.lots]
        return State(self.rows, self.far_rows, self.pairs, self.decided + 1, lots)

    def paired(self, b):
        """The state in which the first part left is decided, and in a pair with part b of the second web."""
        a = self.decided
        lots = []
        for firsts, seconds in self.lots:
            parted = {}
            for x in firsts:
                if x != a:
                    parted.setdefault(self.rows[a][x], ([], []))[0].append(x)
            for y in seconds:
                if y != b:
                    parted.setdefault(self.far_rows[b][y], ([], []))[1].append(y)
            lots.extend(list(parted.values()))
        return State(self.rows, self.far_rows, self.pairs + [(a, b)], a + 1, lots)

    def branches(self):
        """The states behind this one: that in which the first part left is passed, then those with each pair."""
        return [self.passed()] + [self.paired(b) for b in self.candidates()]


def order_rows(web):
    """For each part the list of the orders of its ties with each part, 0 for no tie."""
    many = len(web[0])
    rows = [[0] * many for part in range(many)]
    for a, b, order in web[1]:
        rows[a][b] = order
        rows[b][a] = order
    return rows


def state_at(web, other, pairs, many):
    """The State with these pairs, where so many parts of the first web are decided."""
    firsts, seconds = [pair[0] for pair in pairs], [pair[1] for pair in pairs]
    lots = {}
    for a in range(many, len(web[0])):
        lots.setdefault(class_key(web, firsts, a), ([], []))[0].append(a)
    for b in range(len(other[0])):
        if b not in seconds:
            lots.setdefault(class_key(other, seconds, b), ([], []))[1].append(b)
    return State(order_rows(web), order_rows(other), list(pairs), many, list(lots.values()))


def class_bound(web, other, pairs, many):
    """The BOUND of a state."""
    return state_at(web, other, pairs, many).bound()


def kind_bound(web, other):
    """The BOUND of the state without pairs in which nothing is decided, by kinds and marks alone."""
    rest = list(other[0])
    number = 0
    for part in web[0]:
        if part in rest:
            rest.remove(part)
            number += 1
    return number


def is_apart(web, pairs, many):
    """Whether a state is APART."""
    return is_apart_by(near_lists(len(web[0]), web[1]), pairs, many)


def is_apart_by(near, pairs, many):
    """Whether a state is APART, where near tells the neighbours in the first web."""
    if not pairs:
        return False
    firsts = [pair[0] for pair in pairs]
    meant = [[x for x in row if x >= many or x in firsts] for row in near]
    met = parts_from(meant, firsts[0])
    return not all(a in met for a in firsts)


def left_candidates(web, other, pairs, many):
    """The rising list of the parts of the second web that are left and have the class of the part many."""
    return state_at(web, other, pairs, many).candidates()


class Quest:
    """The search for a greatest common list, which goes below no state whose bound tells that it gives no greater."""

    def __init__(self, web, joined):
        self.near = near_lists(len(web[0]), web[1])
        self.joined = joined
        self.greatest = None

    def go_below(self, state):
        """Looks for a greater common list than the best so far below the state."""
        if self.greatest is not None and state.bound() <= len(self.greatest):
            return
        if self.joined and is_apart_by(self.near, state.pairs, state.decided):
            return
        if state.is_whole():
            # Nothing is left, so it is joined as it is not apart, if it has to be.
            self.greatest = state.pairs
            return
        for branch in reversed(state.branches()):
            self.go_below(branch)


def greatest_common(web, other, joined):
    """A greatest common list."""
    check_both(web, other, MOST_FOR_SIZES)
    quest = Quest(web, joined)
    quest.go_below(state_at(web, other, [], 0))
    return list(quest.greatest)


def common_size(web, other, joined):
    """The SIZE."""
    return len(greatest_common(web, other, joined))


def distance_between(web, other):
    """The DISTANCE of two webs."""
    return len(web[0]) + len(other[0]) - 2 * common_size(web, other, False)
