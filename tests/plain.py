"""What the document tells of colourings, paths and pairings, done in the plainest way, to compare with."""

from itertools import permutations, product

from webnames.numberings import is_pairing, renumbered

K = ("k", 0)


def ring(many, part=K, order=1):
    ties = sorted({(min(k, (k + 1) % many), max(k, (k + 1) % many), order) for k in range(many)})
    return ([part] * many, ties, [], [])


def row(many, part=K, orders=(1,)):
    return ([part] * many, [(k, k + 1, orders[k % len(orders)]) for k in range(many - 1)], [], [])


def ladder(steps):
    beams = [(k, k + 1, 1) for k in range(steps - 1)] + [(steps + k, steps + k + 1, 1) for k in range(steps - 1)]
    return ([K] * (2 * steps), sorted(beams + [(k, steps + k, 1) for k in range(steps)]), [], [])


def alone(many, part=K):
    return ([part] * many, [], [], [])


def star(many, sign=0, outer=K):
    hands = [(0, sign)] if sign else []
    return ([("c", 0)] + [outer] * many, [(0, k, 1) for k in range(1, many + 1)], hands, [])


def all_tied(many):
    return ([K] * many, [(a, b, 1) for a in range(many) for b in range(a + 1, many)], [], [])


def cube(signs=()):
    """The eight corners of a cube; with signs, each has a hand."""
    ties = [(a, b, 1) for a in range(8) for b in range(a + 1, 8) if bin(a ^ b).count("1") == 1]
    return ([K] * 8, ties, [(part, sign) for part, sign in enumerate(signs)], [])


def beside(*webs):
    """Webs put together."""
    parts, ties, hands, sides = [], [], [], []
    for web in webs:
        n = len(parts)
        parts = parts + web[0]
        ties = ties + [(a + n, b + n, order) for a, b, order in web[1]]
        hands = hands + [(a + n, sign) for a, sign in web[2]]
        sides = sides + [(a + n, b + n, sign) for a, b, sign in web[3]]
    return (parts, ties, hands, sides)


def twins(signs, outer=K):
    """A chain of parts with hands, one for each sign, each with two like parts beside it (three at the ends)."""
    many = len(signs)
    ties = [(k, k + 1, 1) for k in range(many - 1)]
    parts = [("c", 0)] * many
    for k in range(many):
        for _ in range(3 if k in (0, many - 1) else 2):
            ties.append((k, len(parts), 1))
            parts = parts + [outer]
    return (parts, sorted(ties), list(enumerate(signs)), [])


def double(sides=1, ends=(K, K, K, K)):
    """Two parts with a tie of order 2 and sides, each with two further neighbours."""
    return ([K, K] + list(ends), [(0, 1, 2), (0, 2, 1), (0, 3, 1), (1, 4, 1), (1, 5, 1)], [], [(0, 1, sides)])


def ring_with(leaps):
    """A ring of as many parts as leaps has numbers, each tied with the part so many ahead, too."""
    many = len(leaps)
    pairs = {(k, (k + 1) % many) for k in range(many)} | {(k, (k + leap) % many) for k, leap in enumerate(leaps)}
    return ([K] * many, sorted({(min(pair), max(pair), 1) for pair in pairs}), [], [])


# Twelve parts with three ties each and no symmetry but the straight one.
FRUCHT = ring_with((-5, -2, -4, 2, 5, -2, 2, 5, -2, -5, 4, 2))

# Ten parts of three ties each, of which any two without a tie have one neighbour in common.
PETERSEN = ([K] * 10, sorted([(k, k + 1, 1) for k in range(4)] + [(0, 4, 1)] + [(k, k + 5, 1) for k in range(5)] +
            [(5, 7, 1), (7, 9, 1), (6, 9, 1), (6, 8, 1), (5, 8, 1)]), [], [])
# Ten parts of three ties each, with a hand each; below the first target some leaves are one choice deeper.
UNEVEN = ([K] * 10, [(0, 1, 1), (0, 4, 1), (0, 7, 1), (1, 2, 1), (1, 9, 1), (2, 5, 1), (2, 6, 1), (3, 4, 1), (3, 8, 1),
          (3, 9, 1), (4, 6, 1), (5, 7, 1), (5, 8, 1), (6, 7, 1), (8, 9, 1)],
          list(enumerate((-1, -1, 1, -1, -1, 1, -1, -1, -1, -1))), [])

SHAPES = [
    alone(0), alone(1), alone(2), alone(5), row(2), row(3), row(5, orders=(1, 2)), ring(3), ring(4), ring(6),
    beside(ring(3), ring(3)), beside(ring(3), ring(4)), star(3), star(3, 1), star(3, -1), star(4), star(4, 1), star(5),
    all_tied(4), all_tied(5), ladder(3), double(), double(-1), double(1, (K, K, ("b", 0), K)), twins((1, 1)),
    twins((1, -1)), beside(star(3, 1), row(2)), beside(row(2), row(2), alone(2)), ([K] * 4, [(0, 1, 2), (2, 3, 2)], [], []),
    ([K] * 6, [(0, 1, 1), (0, 2, 1), (1, 2, 2), (1, 3, 1), (2, 3, 1), (3, 4, 1)], [(1, 1), (3, -1)], [(1, 2, 1)]),
    ([K] * 6, [(0, 2, 1), (1, 2, 1), (2, 3, 2), (3, 4, 1), (3, 5, 1)], [], [(2, 3, -1)]),
    ([K] * 4, [(0, 1, 2), (0, 3, 2), (1, 2, 2), (2, 3, 2)], [], [(0, 1, 1), (0, 3, 1), (1, 2, 1), (2, 3, 1)]),
    ([K] * 4, [(0, 1, 1), (0, 2, 1), (0, 3, 1), (1, 2, 1), (1, 3, 1), (2, 3, 1)], [(0, 1), (1, 1), (2, 1), (3, -1)], []),
    FRUCHT, beside(ring(4), ring(3)), ring_with((3, -2, 2) * 2), ring_with((4, -2, 4, 2) * 2),
]


def ranks(keys):
    unlike = []
    for key in sorted(keys):
        if key not in unlike:
            unlike.append(key)
    return [unlike.index(key) for key in keys]


def ties(web, part):
    """The ties of a part as `(order, 1 with sides or 0 without, neighbour)`."""
    sided = [side[:2] for side in web[3]]
    found = []
    for a, b, order in web[1]:
        if part in (a, b):
            found.append((order, 1 if (a, b) in sided else 0, b if part == a else a))
    return found


def first(web):
    handed = [hand[0] for hand in web[2]]
    keys = []
    for part, (kind, mark) in enumerate(web[0]):
        told = ties(web, part)
        keys.append((kind, mark, len(told), 1 if part in handed else 0, sorted(tie[:2] for tie in told)))
    return ranks(keys)


def key(web, colouring, part):
    return (colouring[part], sorted((order, sided, colouring[x]) for order, sided, x in ties(web, part)))


def after_round(web, colouring):
    return ranks([key(web, colouring, part) for part in range(len(colouring))])


def refine(web, colouring):
    while True:
        after = after_round(web, colouring)
        if len(set(after)) == len(set(colouring)):
            return colouring
        colouring = after


def single(web, colouring, part):
    return refine(web, ranks([(colour, 0 if x == part else 1) for x, colour in enumerate(colouring)]))


KNOWN = {}


def colouring_of(web, path):
    """The colouring of a path; what was told once is kept, as tests ask for the same ones over and over."""
    place = (repr(web), tuple(path))
    if place not in KNOWN:
        if len(KNOWN) > 20000:
            KNOWN.clear()
        KNOWN[place] = single(web, colouring_of(web, path[:-1]), path[-1]) if path else refine(web, first(web))
    return list(KNOWN[place])


def cells(colouring):
    return [[p for p, c in enumerate(colouring) if c == colour] for colour in sorted(set(colouring))]


def trace(colouring):
    return [len(cell) for cell in cells(colouring)]


def traces(web, path):
    return [trace(colouring_of(web, path[:k])) for k in range(len(path) + 1)]


def target(colouring):
    wide = [cell for cell in cells(colouring) if len(cell) > 1]
    return wide[0] if wide else None


def leaves(web, path):
    """The leaves at or below a path, rising, with their colourings."""
    colouring = colouring_of(web, path)
    cell = target(colouring)
    if cell is None:
        return [(list(path), colouring)]
    return [leaf for part in cell for leaf in leaves(web, list(path) + [part])]


def leaf_key(web, path):
    return (traces(web, path), renumbered(web, colouring_of(web, path)))


def pairings(web, other):
    many = len(web[0])
    if many != len(other[0]):
        return []
    return [list(p) for p in permutations(range(many)) if is_pairing(web, other, list(p))]


def leading_pairings(web, path, other, way):
    return [p for p in pairings(web, other) if [p[x] for x in path] == way]


def all_signs(many):
    return [list(signs) for signs in product((-1, 1), repeat=many)]


def paths_of(rng, many, lengths=(0, 1, 1, 2, 3)):
    """Some lists of unlike parts."""
    return [rng.sample(range(many), min(many, length)) for length in lengths]
