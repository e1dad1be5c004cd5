"""Sums of tie sets, independent rings, and least bases with their papers."""

from webnames.basics import is_tuple_of, mask_of
from webnames.rings import is_ring, is_tie_set, ring_form, ring_rank, ring_ties, rings_to
from webnames.webs import MOST_PARTS


def sum_of(first, second):
    """The tie set of the places that are in just one of two tie sets."""
    return [place for place in sorted(first + second) if (place in first) != (place in second)]


def is_odd(first, second):
    """Whether two tie sets have an odd number of ties in common."""
    return len([place for place in first if place in second]) & 1 == 1


def places_of(mask):
    """The rising list of the places that the bits of the number tell."""
    return [place for place in range(mask.bit_length()) if (mask >> place) & 1 == 1]


class Sums:
    """Masks that were taken one by one, each no sum of some of those ahead of it.

    rows has for each of them what was left of it behind the rows ahead, and the mask of the places of those taken
    whose sum that is. No row has the greatest bit of a row ahead of it, so one look at each row is enough.
    """

    def __init__(self):
        self.rows = []

    def reduced(self, mask):
        """`(left, chosen)`: what is left of a mask, and the mask of the places whose sum was taken away."""
        left = mask
        chosen = 0
        for row, those in self.rows:
            if left ^ row < left:
                left = left ^ row
                chosen = chosen ^ those
        return (left, chosen)

    def take(self, mask):
        """Takes a mask unless it is a sum of some of those taken; whether it was taken."""
        left, chosen = self.reduced(mask)
        if left == 0:
            return False
        self.rows.append((left, chosen | (1 << len(self.rows))))
        return True


def is_independent(web, rings):
    """Whether the rings of a list are INDEPENDENT."""
    sums = Sums()
    for ring in rings:
        if not sums.take(mask_of(ring_ties(web, ring))):
            return False
    return True


def as_sum(web, rings, tie_set):
    """The places of the independent rings whose tie sets have this sum, None if there are none."""
    sums = Sums()
    for ring in rings:
        sums.take(mask_of(ring_ties(web, ring)))
    left, chosen = sums.reduced(mask_of(tie_set))
    return places_of(chosen) if left == 0 else None


def plain_base(web):
    """The least base that comes of taking, of all rings by length, each that is no sum of some of those taken."""
    sums = Sums()
    base = []
    for ring in rings_to(web, MOST_PARTS):
        if sums.take(mask_of(ring_ties(web, ring))):
            base.append(ring)
    return base


def odd_ring(web, tie_set):
    """A shortest ring that is odd to the tie set, None if there is none."""
    doubled = two_copies(web, tie_set)
    many = len(web[0])
    best = None
    for part in range(many):
        walk = shortest_walk(doubled, part, part + many)
        if walk is not None and (best is None or len(walk) < len(best)):
            best = walk
    # No part but the last stands twice in it: otherwise one of the two rounds that it is made of would be
    # odd, and shorter.
    return None if best is None else ring_form([part - many if part >= many else part for part in best[:-1]])


def two_copies(web, tie_set):
    """The neighbours in two copies of the web, the second one behind the first; ties of the set lead across."""
    many = len(web[0])
    doubled = [[] for part in range(2 * many)]
    for place, (a, b, order) in enumerate(web[1]):
        across = many if place in tie_set else 0
        for first, second in ((a, b + across), (a + many, b + many - across)):
            doubled[first].append(second)
            doubled[second].append(first)
    return doubled


def shortest_walk(near, first, last):
    """A shortest way from first to last, where near tells the neighbours, None if there is none."""
    came = {first: None}
    queue = [first]
    done = 0
    while done < len(queue) and last not in came:
        here = queue[done]
        done += 1
        for other in near[here]:
            if other not in came:
                came[other] = here
                queue.append(other)
    if last not in came:
        return None
    walk = [last]
    while came[walk[-1]] is not None:
        walk.append(came[walk[-1]])
    return walk


def base_paper(web):
    """A BASE PAPER of the web.

    The tie sets at first are the single ties that no piece needs to be one; a tie set to which a ring ahead is
    odd gets that ring's own tie set added, and then the ring is even to it.
    """
    tie_sets = [[place] for place in spare_ties(web)]
    paper = []
    for k in range(len(tie_sets)):
        ring = odd_ring(web, tie_sets[k])
        paper.append((ring, list(tie_sets[k])))
        ties = ring_ties(web, ring)
        for j in range(k + 1, len(tie_sets)):
            if is_odd(ties, tie_sets[j]):
                tie_sets[j] = sum_of(tie_sets[j], tie_sets[k])
    return paper


def spare_ties(web):
    """The places of the ties whose ends are in one piece by the ties ahead of them."""
    labels = list(range(len(web[0])))
    spare = []
    for place, (a, b, order) in enumerate(web[1]):
        if labels[a] == labels[b]:
            spare.append(place)
        else:
            first, second = labels[a], labels[b]
            labels = [first if label == second else label for label in labels]
    return spare


def is_base_paper(web, value):
    """Whether any value is a BASE PAPER of the web."""
    if not isinstance(value, list) or len(value) != ring_rank(web):
        return False
    if not all(is_tuple_of(row, 2) and is_ring(web, row[0]) and is_tie_set(web, row[1]) for row in value):
        return False
    for k, (ring, tie_set) in enumerate(value):
        ties = ring_ties(web, ring)
        if not is_odd(ties, tie_set) or any(is_odd(ties, row[1]) for row in value[k + 1:]):
            return False
        if len(odd_ring(web, tie_set)) < len(ring):
            return False
    return True


def ring_base(web):
    """A least base of the web."""
    return [ring for ring, tie_set in base_paper(web)]


def is_ring_base(web, value):
    """Whether any value is a least base of the web."""
    if not isinstance(value, list) or len(value) != ring_rank(web):
        return False
    if not all(is_ring(web, ring) for ring in value) or not is_independent(web, value):
        return False
    return sorted([len(ring) for ring in value]) == ring_lengths(web)


def ring_lengths(web):
    """The sorted list of the lengths of a least base."""
    return sorted([len(ring) for ring in ring_base(web)])
