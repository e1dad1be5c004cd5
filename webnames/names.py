"""Forms and names, by all leaves of the tree of choices."""

from webnames.fulltree import best_of
from webnames.numberings import back, then
from webnames.writer import name_text


def pointed_form(web, path):
    """The pointed form of the web under the path."""
    return best_of(web, path)[0][1]


def pointed_name(web, path):
    """The text of the pointed form of the web under the path."""
    return name_text(pointed_form(web, path))


def form(web):
    """The FORM of the web."""
    return pointed_form(web, [])


def name(web):
    """The NAME of the web."""
    return pointed_name(web, [])


def numbering_to_form(web):
    """A numbering by which the web becomes its form."""
    return best_of(web, [])[1][0].colouring


def pairing_by_forms(web, other):
    """A pairing of the web with the other one, None if they are not alike."""
    key, found = best_of(web, [])
    far_key, far_found = best_of(other, [])
    if key != far_key:
        return None
    return then(found[0].colouring, back(far_found[0].colouring))


def is_alike(web, other):
    """Whether the names of two webs are equal."""
    return name(web) == name(other)


def is_form(web):
    """Whether the web is its own form."""
    return form(web) == web
