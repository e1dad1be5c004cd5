"""The pieces of a web, the web of some of its parts, and webs put together."""

from webnames.errors import TooMany
from webnames.numberings import back
from webnames.webs import MOST_PARTS, MOST_TIES, further, near_lists, neighbours


def pieces(web):
    """The list of the pieces, each the rising list of its parts."""
    return pieces_by(near_lists(len(web[0]), web[1]))


def pieces_by(near):
    """The list of the pieces, where near tells the neighbours of each part."""
    found = []
    seen = [False] * len(near)
    for part in range(len(near)):
        if not seen[part]:
            piece = parts_from(near, part)
            found.append(piece)
            for other in piece:
                seen[other] = True
    return found


def parts_from(near, part):
    """The rising list of the parts to which a way leads from this one."""
    seen = {part: True}
    queue = [part]
    while queue:
        here = queue.pop()
        for other in near[here]:
            if other not in seen:
                seen[other] = True
                queue.append(other)
    return sorted(seen)


def merged_pieces(web):
    """The list of the pieces, by labels: each tie gives the parts with the labels of its ends one label."""
    labels = list(range(len(web[0])))
    for a, b, order in web[1]:
        lesser, greater = min(labels[a], labels[b]), max(labels[a], labels[b])
        labels = [lesser if label == greater else label for label in labels]
    return [[part for part in range(len(labels)) if labels[part] == label] for label in sorted(set(labels))]


def piece_web(web, parts):
    """The web of these parts, a rising list of unlike ones."""
    place = {part: k for k, part in enumerate(parts)}
    ties = [(place[a], place[b], order) for a, b, order in web[1] if a in place and b in place]
    hands = []
    for part, sign in web[2]:
        if part in place and all(x in place for x in neighbours(web, part)):
            hands.append((place[part], sign))
    sides = []
    for a, b, sign in web[3]:
        if a in place and b in place and all(x in place for x in further(web, a, b) + further(web, b, a)):
            sides.append((place[a], place[b], sign))
    return ([web[0][part] for part in parts], ties, hands, sides)


def put_together(webs):
    """The webs put together as one web, the parts of each one behind those in front of it."""
    if sum([len(web[0]) for web in webs]) > MOST_PARTS:
        raise TooMany("parts", MOST_PARTS)
    if sum([len(web[1]) for web in webs]) > MOST_TIES:
        raise TooMany("ties", MOST_TIES)
    parts, ties, hands, sides = [], [], [], []
    for web in webs:
        ahead = len(parts)
        parts.extend(web[0])
        ties.extend([(a + ahead, b + ahead, order) for a, b, order in web[1]])
        hands.extend([(part + ahead, sign) for part, sign in web[2]])
        sides.extend([(a + ahead, b + ahead, sign) for a, b, sign in web[3]])
    return (parts, ties, hands, sides)


def piece_numbering(web):
    """The numbering that leads each part to its place in the pieces read one behind another."""
    return back([part for piece in pieces(web) for part in piece])
