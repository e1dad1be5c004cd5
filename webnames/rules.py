"""Rules, which change webs where their patterns match, and what comes of applying them."""

from webnames.basics import check_many, is_tuple_of
from webnames.deeds import can_do, done, is_deed, is_mark, numbers_of, with_numbers
from webnames.errors import CannotDo, TooMany, kept
from webnames.least import match_classes
from webnames.patterns import is_pattern
from webnames.search import quick_name
from webnames.webs import is_kind
from webnames.writer import read_name

MOST_RULE_DEEDS = 12
MOST_STEPS = 3
MOST_REACHED = 100


def is_rule(value):
    """Whether any value is a RULE."""
    if not is_tuple_of(value, 2) or not is_pattern(value[0]) or not value[0][0]:
        return False
    if not isinstance(value[1], list) or len(value[1]) > MOST_RULE_DEEDS:
        return False
    return all(is_rule_deed(deed) for deed in value[1])


def is_rule_deed(value):
    """Whether any value is a RULE DEED."""
    if is_tuple_of(value, 3) and value[0] == "new":
        return is_kind(value[1]) and is_mark(value[2])
    return is_deed(value) and value[0] != "put"


def applied(web, rule, match):
    """The web that comes by applying the rule at a match."""
    web = kept(web)
    # For each number of the rule's own the part for which it stands, None for one that was dropped.
    stands = list(match)
    for deed in rule[1]:
        meant = meant_deed(web, deed, stands)
        if meant is None or not can_do(web, meant):
            raise CannotDo(deed)
        web = done(web, meant)
        stands = stands_behind(meant, stands)
    return web


def meant_deed(web, deed, stands):
    """The DEED for which a rule deed stands, None if one of its numbers stands for no part."""
    if deed[0] == "new":
        return ("put", len(web[0]), deed[1], deed[2])
    if not all(x < len(stands) and stands[x] is not None for x in numbers_of(deed)):
        return None
    return with_numbers(deed, stands)


def stands_behind(deed, stands):
    """The parts for which the numbers stand behind a deed; those that it puts go behind all."""
    if deed[0] == "put":
        return stands + [deed[1]]
    if deed[0] == "drop":
        gone = deed[1]
        return [None if x is None or x == gone else x - 1 if x > gone else x for x in stands]
    return list(stands)


def results(web, rule):
    """The rising list of the names of all webs that come by applying the rule at a match, each once."""
    names = []
    # What comes of matches of one class is alike.
    for group in match_classes(rule[0], web):
        there = applied_or_none(web, rule, group[0])
        if there is not None:
            names.append(quick_name(there))
    return sorted(set(names))


def applied_or_none(web, rule, match):
    """The web that comes by applying the rule at a match, None if it cannot be applied there."""
    try:
        return applied(web, rule, match)
    except CannotDo:
        return None


def reached(web, rule, many):
    """The rising list of the names of all webs reached in at most so many steps, each once."""
    check_many(many, MOST_STEPS)
    found = {quick_name(web): True}
    last = list(found)
    for _ in range(many):
        fresh = {}
        for name in last:
            for other in results(read_name(name), rule):
                if other not in found:
                    found[other] = True
                    fresh[other] = True
                if len(found) > MOST_REACHED:
                    raise TooMany("webs", MOST_REACHED)
        last = list(fresh)
    return sorted(found)
