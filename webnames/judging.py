"""Questions, and the judges of what answers them: of papers for both words, of descriptions and of kin papers."""

from webnames.bases import is_base_paper
from webnames.basics import are_unlike_numbers, is_count, is_number_below, is_rising, is_tuple_of
from webnames.common import is_common
from webnames.commonpapers import is_no_greater
from webnames.leastforms import WORDS, invariants
from webnames.levels import is_apart_tree
from webnames.mirrors import mirror, turned_hand
from webnames.namepapers import is_name_paper
from webnames.nomatch import is_no_match
from webnames.numberings import is_pairing
from webnames.patterns import is_match, is_pattern
from webnames.sympapers import is_symmetry_paper, paper_count
from webnames.ways import is_way
from webnames.webs import MOST_PARTS, has_hand, is_web
from webnames.writer import is_name_text, name_text, read_name

# For each word what stands behind it in a question; a part is one of the web that stands first.
SHAPES = {
    "alike": ("web", "web"),
    "name": ("web", "text"),
    "own mirror": ("web",),
    "hand": ("web", "part with a hand"),
    "led": ("web", "part", "part"),
    "symmetries": ("web", "count"),
    "rings": ("web", "counts"),
    "joined": ("web", "part", "part"),
    "match": ("pattern", "web"),
    "common": ("web", "web", "bool", "many"),
}


def is_question(value):
    """Whether any value is a QUESTION."""
    if not isinstance(value, tuple) or not value or not isinstance(value[0], str) or value[0] not in SHAPES:
        return False
    shape = SHAPES[value[0]]
    if len(value) != len(shape) + 1:
        return False
    # From left to right, as whether a part is one is asked of a web.
    return all(is_asked(what, x, value[1]) for what, x in zip(shape, value[1:]))


def is_asked(what, value, web):
    """Whether any value is what a question needs where this word stands; web is what stands first in it."""
    if what == "web":
        return is_web(value)
    if what == "pattern":
        return is_pattern(value)
    if what == "text":
        return isinstance(value, str)
    if what == "part":
        return is_number_below(value, len(web[0]))
    if what == "part with a hand":
        return is_number_below(value, len(web[0])) and has_hand(web, value)
    if what == "counts":
        return isinstance(value, list) and all(is_count(x) for x in value)
    if what == "bool":
        return isinstance(value, bool)
    return is_count(value) and (what == "count" or value <= MOST_PARTS)


def is_unlike_paper(web, other, value):
    """Whether any value is an UNLIKE PAPER of two webs."""
    if is_tuple_of(value, 2) and value[0] == "word":
        return value[1] in words_apart(web, other)
    if is_tuple_of(value, 2) and value[0] == "apart":
        return is_apart_tree(web, [], other, [], value[1])
    if not is_tuple_of(value, 5) or value[0] != "names":
        return False
    word, form, paper, far_form, far_paper = value
    return is_name_paper(web, form, paper) and is_name_paper(other, far_form, far_paper) and form != far_form


def words_apart(web, other):
    """The list of the words whose invariants of two webs are unlike."""
    return [word for word, row, far_row in zip(WORDS, invariants(web), invariants(other)) if row != far_row]


def yes_alike(question, value):
    """Whether any value shows that two webs are alike."""
    return is_pairing(question[1], question[2], value)


def no_alike(question, value):
    """Whether any value shows that two webs are not alike."""
    return is_unlike_paper(question[1], question[2], value)


def yes_name(question, value):
    """Whether any value shows that a string is the NAME of a web."""
    return is_name_text(question[2]) and is_name_paper(question[1], read_name(question[2]), value)


def no_name(question, value):
    """Whether any value shows that a string is not the NAME of a web."""
    if not is_tuple_of(value, 2) or not is_name_paper(question[1], value[0], value[1]):
        return False
    return name_text(value[0]) != question[2]


def yes_own_mirror(question, value):
    """Whether any value shows that a web is its own mirror."""
    return is_pairing(question[1], mirror(question[1]), value)


def no_own_mirror(question, value):
    """Whether any value shows that a web is not its own mirror."""
    return is_unlike_paper(question[1], mirror(question[1]), value)


def yes_hand(question, value):
    """Whether any value shows that a hand counts."""
    return is_unlike_paper(question[1], turned_hand(question[1], question[2]), value)


def no_hand(question, value):
    """Whether any value shows that a hand does not count."""
    return is_pairing(question[1], turned_hand(question[1], question[2]), value)


def yes_led(question, value):
    """Whether any value shows that a symmetry leads one part to another one."""
    word, web, a, b = question
    return is_pairing(web, web, value) and value[a] == b


def no_led(question, value):
    """Whether any value shows that no symmetry leads one part to another one."""
    word, web, a, b = question
    return is_apart_tree(web, [a], web, [b], value)


def yes_symmetries(question, value):
    """Whether any value shows that a web has so many symmetries."""
    return is_symmetry_paper(question[1], value) and paper_count(value) == question[2]


def no_symmetries(question, value):
    """Whether any value shows that a web has not so many symmetries."""
    return is_symmetry_paper(question[1], value) and paper_count(value) != question[2]


def lengths_of(paper):
    """The sorted lengths of the rings of a base paper."""
    return sorted([len(row[0]) for row in paper])


def yes_rings(question, value):
    """Whether any value shows that these are the sorted lengths of a least base."""
    return is_base_paper(question[1], value) and lengths_of(value) == question[2]


def no_rings(question, value):
    """Whether any value shows that these are not the sorted lengths of a least base."""
    return is_base_paper(question[1], value) and lengths_of(value) != question[2]


def yes_joined(question, value):
    """Whether any value shows that two parts are in one piece."""
    word, web, a, b = question
    return is_way(web, value) and value[0] == a and value[-1] == b


def no_joined(question, value):
    """Whether any value shows that two parts are not in one piece."""
    word, web, a, b = question
    if not are_unlike_numbers(value, len(web[0])) or not is_rising(value) or a not in value or b in value:
        return False
    return all((tie[0] in value) == (tie[1] in value) for tie in web[1])


def yes_match(question, value):
    """Whether any value shows that a pattern has a match in a web."""
    return is_match(question[1], question[2], value)


def no_match_told(question, value):
    """Whether any value shows that a pattern has no match in a web."""
    return is_no_match(question[1], question[2], value)


def yes_common(question, value):
    """Whether any value shows that a common list that is meant has so many pairs or more."""
    word, web, other, joined, many = question
    return is_common(web, other, joined, value) and len(value) >= many


def no_common(question, value):
    """Whether any value shows that no common list that is meant has so many pairs."""
    word, web, other, joined, many = question
    return many > 0 and is_no_greater(web, other, joined, many - 1, value)


YES = {
    "alike": yes_alike, "name": yes_name, "own mirror": yes_own_mirror, "hand": yes_hand, "led": yes_led,
    "symmetries": yes_symmetries, "rings": yes_rings, "joined": yes_joined, "match": yes_match, "common": yes_common,
}
NO = {
    "alike": no_alike, "name": no_name, "own mirror": no_own_mirror, "hand": no_hand, "led": no_led,
    "symmetries": no_symmetries, "rings": no_rings, "joined": no_joined, "match": no_match_told, "common": no_common,
}


def is_yes_paper(question, value):
    """Whether any value is a paper for YES of the question."""
    judge = YES[question[0]]
    return judge(question, value)


def is_no_paper(question, value):
    """Whether any value is a paper for NO of the question."""
    judge = NO[question[0]]
    return judge(question, value)


def is_answer(question, value):
    """Whether any value is an ANSWER to the question."""
    if not is_tuple_of(value, 2):
        return False
    if value[0] == "yes":
        return is_yes_paper(question, value[1])
    return value[0] == "no" and is_no_paper(question, value[1])


def is_description(web, value):
    """Whether any value is a DESCRIPTION of the web."""
    if not is_tuple_of(value, 5) or not isinstance(value[0], str):
        return False
    text, paper, symmetries, rings, answer = value
    if not yes_name(("name", web, text), paper) or not is_symmetry_paper(web, symmetries):
        return False
    return is_base_paper(web, rings) and is_answer(("own mirror", web), answer)


def is_kin_paper(webs, value):
    """Whether any value is a KIN PAPER of the list of webs."""
    if not isinstance(value, list) or len(value) != len(webs):
        return False
    # The forms told so far, by the places of their tuples.
    forms = {}
    for place, row in enumerate(value):
        if is_tuple_of(row, 3) and row[0] == "first":
            if not is_name_paper(webs[place], row[1], row[2]) or row[1] in list(forms.values()):
                return False
            forms[place] = row[1]
        elif not is_like_row(webs, place, row, forms):
            return False
    return True


def is_like_row(webs, place, value, forms):
    """Whether any value is a tuple "like" of the web at this place, where forms has the places of tuples "first"."""
    if not is_tuple_of(value, 3) or value[0] != "like" or not is_count(value[1]) or value[1] not in forms:
        return False
    return is_pairing(webs[value[1]], webs[place], value[2])
