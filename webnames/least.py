"""Matches by what they have in common: the least one, their parts, and their classes by symmetries."""

from webnames.matching import matches
from webnames.paths import colouring_at
from webnames.search import quick_pointed
from webnames.strong import Keepers


def least_match(pattern, web):
    """The least match, None if there is none."""
    found = matches(pattern, web)
    return found[0] if found else None


def held_places(pattern, web):
    """The rising list, each once, of the rising lists of a match's parts."""
    found = {tuple(sorted(match)): True for match in matches(pattern, web)}
    return [list(parts) for parts in sorted(found)]


def covered(pattern, web):
    """The rising list of the parts that are in some match."""
    return sorted(set([part for match in matches(pattern, web) for part in match]))


def match_classes(pattern, web):
    """The rising list of the classes, each a rising list of matches."""
    rest = matches(pattern, web)
    numberings = Keepers(web, []).found
    found = []
    seen = {}
    for match in rest:
        if tuple(match) not in seen:
            met = lists_met(numberings, match)
            for other in met:
                seen[other] = True
            found.append([list(other) for other in met])
    return found


def lists_met(numberings, parts):
    """The rising list, in tuples, of the lists to which rows of the numberings lead this one, part by part."""
    met = {tuple(parts): True}
    queue = [tuple(parts)]
    while queue:
        here = queue.pop()
        for numbering in numberings:
            there = tuple([numbering[part] for part in here])
            if there not in met:
                met[there] = True
                queue.append(there)
    return sorted(met)


def list_key(web, path):
    """The key of a list of unlike parts: two such lists have one key exactly if a symmetry leads one to the other."""
    colouring = colouring_at(web, path)
    places = [len([colour for colour in colouring if colour < colouring[part]]) for part in path]
    return (quick_pointed(web, path), places)
