"""What the tests share: webs and numberings to try, values of all kinds, and changes of one thing in a value."""

import random
from itertools import permutations

KINDS = ("a", "b", "zz", "hand")


class Thing:
    """A value of a kind that the package does not know."""


def nested(depth, make):
    value = make(())
    for _ in range(depth):
        value = make((value,))
    return value


# Values of any kind: none of them is an INTEGER from 1 to 4, a list of at least one number, or a tuple of two.
ANY_VALUES = [
    None, True, False, -1, 10 ** 29, -(10 ** 29), "", "a", "k", "0", "x" * 8000, b"", b"a", (), [], [()], ([],),
    [[]], [[[]]], [None], [True], [False], [-1], ["a"], [1.5], (None, None, None, None), ([], [], [], None),
    ([], [], []), [[], [], [], []], ([()], [], [], []), {}, {"a": 1}, set(), 1.5, float("nan"), Thing(), Thing, len,
    nested(99, list), nested(99, tuple), [10 ** 29] * 6000, ["stay"], [("stay", 1)], [("given",)], [("then", 0)],
    [("back", 0)], ([], None), (None, []), ([("stay",)], [None]), range(3), [[], ()], [0, "a"], [0, None], [[0], 0],
]

NOT_COUNTS = [None, True, False, -1, "1", 1.5, [], [1], (1,), (), b"1", Thing(), -(10 ** 29)]


def some_numbering(rng, many):
    numbering = list(range(many))
    rng.shuffle(numbering)
    return numbering


def sign_of_sequence(sequence):
    """The sign of a list, by bringing it into rising sequence by exchanges."""
    row = list(sequence)
    sign = 1
    for place in range(len(row)):
        least = row.index(min(row[place:]))
        if least != place:
            row[place], row[least] = row[least], row[place]
            sign = -sign
    return sign


def near(web):
    found = {part: [] for part in range(len(web[0]))}
    for a, b, _ in web[1]:
        found[a].append(b)
        found[b].append(a)
    return {part: sorted(row) for part, row in found.items()}


def bearing_ties(web):
    """The ties that can bear sides, as `(a, b)`."""
    beside = near(web)
    found = []
    for a, b, order in web[1]:
        if order == 2 and 1 <= len(beside[a]) - 1 <= 2 and 1 <= len(beside[b]) - 1 <= 2:
            found.append((a, b))
    return found


def some_web(rng, many, ties=48, kinds=KINDS, bare=False, orders=(1, 2, 2, 2, 3, 4)):
    """A web with so many parts and at most so many ties."""
    parts = [(rng.choice(kinds), rng.choice([0, 0, 0, -9, 9, 1])) for _ in range(many)]
    pairs = [(a, b) for a in range(many) for b in range(a + 1, many)]
    rng.shuffle(pairs)
    count = [0] * many
    told = []
    for a, b in pairs:
        if len(told) < ties and count[a] < 6 and count[b] < 6:
            count[a] += 1
            count[b] += 1
            told.append((a, b, rng.choice(orders)))
    web = (parts, sorted(told), [], [])
    if bare:
        return web
    hands = [(part, rng.choice([1, -1])) for part in range(many) if count[part] in (3, 4) and rng.random() < 0.7]
    sides = [(a, b, rng.choice([1, -1])) for a, b in bearing_ties(web) if rng.random() < 0.7]
    return (parts, web[1], hands, sides)


def some_webs(seed, many=40, most=24):
    """Webs of 0 to most parts, sparse ones and dense ones, with hands and sides."""
    rng = random.Random(seed)
    sizes = [0, 1, 2, 3, 4, most, most] + [rng.randrange(most + 1) for _ in range(many - 7)]
    return [some_web(rng, size, rng.choice([size // 2, size, size + 2, size + size // 2, 48])) for size in sizes]


def some_groups(seed):
    """Pairs of a number of parts and a list of numberings that make a group of at most 5,040 members."""
    rng = random.Random(seed)
    found = [(0, []), (0, [[]]), (1, []), (1, [[0], [0]]), (3, []), (24, []), (24, [list(range(24))])]
    for many in range(2, 8):
        for size in (1, 1, 2, 3):
            found.append((many, [some_numbering(rng, many) for _ in range(size)]))
    # Few parts move, among many; and a single round of all 24.
    for many in (9, 17, 24):
        for size in (1, 2):
            moving = rng.sample(range(many), 5)
            found.append((many, [on_some_parts(rng, many, moving) for _ in range(size)]))
    found.append((24, [list(range(1, 24)) + [0]]))
    found.append((24, [list(range(1, 24)) + [0], list(reversed(range(24)))]))
    found.append((7, [[1, 2, 3, 4, 5, 6, 0], [1, 0, 2, 3, 4, 5, 6]]))
    found.append((8, [[1, 2, 3, 4, 5, 6, 0, 7], [0, 2, 4, 6, 1, 3, 5, 7], [7, 6, 3, 2, 5, 4, 1, 0]]))
    return found


def on_some_parts(rng, many, parts):
    numbering = list(range(many))
    places = list(parts)
    rng.shuffle(places)
    for part, place in zip(parts, places):
        numbering[part] = place
    return numbering


def group_of(many, numberings):
    """All members of a group as a set of tuples, by products until nothing is new."""
    members = {tuple(range(many))}
    new = set(members)
    while new:
        new = {tuple(p[x] for x in member) for member in new for p in numberings} - members
        members |= new
    return members


def all_of(many):
    return [list(row) for row in permutations(range(many))]


def changed_once(value):
    """Values that are the value but for one thing: an element, a kind of list, a number's kind, the length."""
    if isinstance(value, bool) or value is None:
        return [0, "a"]
    if isinstance(value, int):
        found = [value + 1, value - 1, -value - 3, str(value), None, [value], 10 ** 29]
        return found + [bool(value)] if value in (0, 1) else found
    if isinstance(value, str):
        return [value + "a", value[:-1], value.upper() + "A", None, 0, [value]]
    if not isinstance(value, (list, tuple)):
        return []
    same = type(value)
    found = [tuple(value) if same is list else list(value), None, 0, "a"]
    for place, element in enumerate(value):
        for other in changed_once(element):
            found.append(same([*value[:place], other, *value[place + 1:]]))
        found.append(same([*value[:place], *value[place + 1:]]))
        found.append(same([*value[:place + 1], *value[place:]]))
        if place > 0:
            found.append(same([*value[:place - 1], value[place], value[place - 1], *value[place + 1:]]))
    return found


def same_kinds(value, other):
    """Whether two values are equal, with True no 1, and a list no tuple, also inside."""
    if type(value) is not type(other):
        return False
    if isinstance(value, (list, tuple)):
        return len(value) == len(other) and all(same_kinds(x, y) for x, y in zip(value, other))
    return value == other


def lists_in(value):
    """All lists in a value, itself included, as often as they stand there."""
    found = [value] if isinstance(value, list) else []
    if isinstance(value, (list, tuple)):
        for element in value:
            found.extend(lists_in(element))
    return found


def plain_is_numbering(value, many):
    """Whether any value is a numbering of so many parts."""
    return type(value) is list and all(type(x) is int for x in value) and sorted(value) == list(range(many))
