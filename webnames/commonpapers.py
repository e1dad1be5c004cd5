"""Trees that no common list is greater, greatest papers, and their judges."""

from webnames.basics import check_many, is_tuple_of
from webnames.bounds import MOST_FOR_SIZES, common_size, greatest_common, is_apart_by, state_at
from webnames.common import check_both, is_common
from webnames.errors import TooMany
from webnames.webs import MOST_PARTS, near_lists

MOST_TUPLES = 4000


class Bounding:
    """What trees that none is greater than most are made of, and judged by, for two webs."""

    def __init__(self, web, joined, most):
        self.near = near_lists(len(web[0]), web[1])
        self.joined = joined
        self.most = most
        self.tuples = 0

    def is_bound(self, state):
        """Whether "bound" may stand at the state."""
        return state.bound() <= self.most

    def is_parted(self, state):
        """Whether "apart" may stand at the state."""
        return self.joined and is_apart_by(self.near, state.pairs, state.decided)

    def lazy_tree(self, state):
        """The lazy tree at the state, where no common list made from it has more than most pairs."""
        self.tuples += 1
        if self.tuples > MOST_TUPLES:
            raise TooMany("nodes", MOST_TUPLES)
        if self.is_bound(state):
            return ("bound",)
        if self.is_parted(state):
            return ("apart",)
        return ("split", [self.lazy_tree(branch) for branch in state.branches()])

    def takes(self, state, value):
        """Whether any value is a tree at the state."""
        if is_tuple_of(value, 1) and value[0] == "bound":
            return self.is_bound(state)
        if is_tuple_of(value, 1) and value[0] == "apart":
            return self.is_parted(state)
        if not is_tuple_of(value, 2) or value[0] != "split" or not isinstance(value[1], list) or state.is_whole():
            return False
        branches = state.branches()
        if len(branches) != len(value[1]):
            return False
        return all(self.takes(branch, tree) for branch, tree in zip(branches, value[1]))


def no_greater_tree(web, other, joined, most):
    """The lazy tree that none is greater than most, None if some common list that is meant has more pairs."""
    check_many(most, MOST_PARTS)
    check_both(web, other, MOST_FOR_SIZES)
    if common_size(web, other, joined) > most:
        return None
    return Bounding(web, joined, most).lazy_tree(state_at(web, other, [], 0))


def is_no_greater(web, other, joined, most, value):
    """Whether any value is a tree that none is greater than most."""
    check_many(most, MOST_PARTS)
    return Bounding(web, joined, most).takes(state_at(web, other, [], 0), value)


def greatest_paper(web, other, joined):
    """A GREATEST PAPER."""
    pairs = greatest_common(web, other, joined)
    return (pairs, Bounding(web, joined, len(pairs)).lazy_tree(state_at(web, other, [], 0)))


def is_greatest_paper(web, other, joined, value):
    """Whether any value is a GREATEST PAPER."""
    if not is_tuple_of(value, 2) or not is_common(web, other, joined, value[0]):
        return False
    return is_no_greater(web, other, joined, len(value[0]), value[1])
