"""What a search need not look at: paths spared by found symmetries, and paths with greater traces."""

from webnames.numberings import then


def keepers(numberings, parts):
    """Those of the numberings that lead each of these parts to itself."""
    return [numbering for numbering in numberings if all(numbering[part] == part for part in parts)]


def orbit_under(numberings, part):
    """The rising list of the parts to which rows of the numberings lead the part."""
    seen = {part: True}
    queue = [part]
    while queue:
        here = queue.pop()
        for numbering in numberings:
            if numbering[here] not in seen:
                seen[numbering[here]] = True
                queue.append(numbering[here])
    return sorted(seen)


def kept_orbit(numberings, path, part):
    """The kept orbit of the part under the path, by these numberings."""
    return orbit_under(keepers(numberings, path), part)


def led(many, numberings, path, first, second):
    """A numbering made of those that keep the path that leads first to second, None if there is none."""
    rows = keepers(numberings, path)
    made_by = {first: list(range(many))}
    queue = [first]
    while queue and second not in made_by:
        here = queue.pop()
        for numbering in rows:
            if numbering[here] not in made_by:
                made_by[numbering[here]] = then(made_by[here], numbering)
                queue.append(numbering[here])
    return made_by.get(second)


def spared_at(numberings, path, start):
    """The least place from start on at which the path is spared, None if there is none."""
    rows = keepers(numberings, path[:start])
    for place in range(start, len(path)):
        part = path[place]
        if orbit_under(rows, part)[0] < part:
            return place
        rows = keepers(rows, [part])
    return None


def is_later(traces, best):
    """Whether the traces are greater than the beginning of the best ones that is as long as they are."""
    return traces > best[:len(traces)]
