"""Groups the plain way: all that numberings make, by going on until nothing is new."""

from webnames.basics import check_many, has_each_number, is_rising
from webnames.errors import TooMany
from webnames.numberings import straight
from webnames.webs import MOST_PARTS

MOST_FOUND = 5040


def images(numberings, row, what):
    """All images of a row of parts under the group, as tuples, each with how it was first met.

    That is the image in front of it and the place of the numbering that led from there, None for the row
    itself. As it goes by breadth, and from each image by the places in sequence, what leads to an image so
    is the least of the shortest ways. TooMany(what, 5040) if there are more.
    """
    unlike = [place for place, numbering in enumerate(numberings) if numbering not in numberings[:place]]
    start = tuple(row)
    came = {start: None}
    queue = [start]
    done = 0
    while done < len(queue):
        here = queue[done]
        done += 1
        for place in unlike:
            numbering = numberings[place]
            there = tuple([numbering[x] for x in here])
            if there not in came:
                if len(came) == MOST_FOUND:
                    raise TooMany(what, MOST_FOUND)
                came[there] = (here, place)
                queue.append(there)
    return came


def way_to(came, image):
    """The list of places that leads to this image, where came is what `images` returned."""
    places = []
    here = tuple(image)
    while came[here] is not None:
        here, place = came[here]
        places.append(place)
    return places[::-1]


def plain_group(many, numberings):
    """The rising list of all members of the group that the numberings make."""
    check_many(many, MOST_PARTS)
    return sorted([list(row) for row in images(numberings, straight(many), "group")])


def word(many, numberings, numbering):
    """The least of the shortest words of the numbering, None if it is no member."""
    check_many(many, MOST_PARTS)
    came = images(numberings, straight(many), "group")
    return way_to(came, numbering) if tuple(numbering) in came else None


def is_group(many, value):
    """Whether any value is the rising list of all members of some group of numberings of so many parts."""
    check_many(many, MOST_PARTS)
    if not isinstance(value, list) or not all(has_each_number(row, many) for row in value):
        return False
    return is_rising(value) and value[:1] == [straight(many)] and is_closed(value)


def is_closed(rows):
    """Whether a list of unlike numberings, the straight one first, has all that its numberings make."""
    known = {tuple(row): True for row in rows}
    members = [tuple(rows[0])]
    found = {members[0]: True}
    makers = []
    for row in rows:
        if tuple(row) not in found:
            makers.append(row)
            if not goes_on(makers, members, found, known):
                return False
    return True


def goes_on(makers, members, found, known):
    """Puts all that the last maker makes new behind the members; False if something is not known.

    Ahead of this call the members are all that the other makers make.
    """
    old = len(members)
    done = 0
    while done < len(members):
        here = members[done]
        # What the other makers make of the old members is there already.
        untried = makers if done >= old else makers[-1:]
        for maker in untried:
            there = tuple([maker[x] for x in here])
            if there not in known:
                return False
            if there not in found:
                found[there] = True
                members.append(there)
        done += 1
    return True
