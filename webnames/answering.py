"""Answers to questions with papers, and whether yes is right without papers; descriptions and kin papers."""

from webnames.bases import base_paper, plain_base
from webnames.bounds import greatest_common
from webnames.common import plain_size
from webnames.commonpapers import no_greater_tree
from webnames.judging import lengths_of, words_apart
from webnames.levels import apart_tree, spot_at
from webnames.matching import matches, matches_plain
from webnames.mirrors import mirror, turned_hand
from webnames.namepapers import endless_paper, name_paper
from webnames.names import name
from webnames.nomatch import no_match
from webnames.numberings import renumbered
from webnames.pairings import all_pairings, first_pairing
from webnames.paths import colouring_at
from webnames.pieces import pieces
from webnames.strong import Keepers
from webnames.sympapers import paper_count, symmetry_paper
from webnames.ways import least_way
from webnames.writer import name_text

# Beyond so many tuples of an apart tree name papers are made, which grow less fast with webs of like pieces.
SMALL_TREE = 10000


def plain_truth(question):
    """Whether yes is right, without papers."""
    word, web = question[:2]
    if word == "joined":
        return any(question[2] in piece and question[3] in piece for piece in pieces(web))
    if word == "name":
        return name(web) == question[2]
    if word == "rings":
        return sorted([len(ring) for ring in plain_base(web)]) == question[2]
    if word == "match":
        return len(matches_plain(question[1], question[2])) > 0
    if word == "common":
        return plain_size(web, question[2], question[3]) >= question[4]
    if word == "symmetries":
        return len(all_pairings(web, web)) == question[2]
    if word == "led":
        return any(numbering[question[2]] == question[3] for numbering in all_pairings(web, web))
    web, other = webs_compared(question)
    return (len(all_pairings(web, other)) > 0) != (word == "hand")


def webs_compared(question):
    """The two webs whose likeness a question asks for."""
    if question[0] == "own mirror":
        return (question[1], mirror(question[1]))
    if question[0] == "hand":
        return (question[1], turned_hand(question[1], question[2]))
    return (question[1], question[2])


def answer(question):
    """An ANSWER to the question."""
    action = ACTIONS[question[0]]
    return action(question)


def answer_likeness(question):
    """An answer where two webs are compared; for a hand it is a yes if they are not alike."""
    web, other = webs_compared(question)
    pairing = first_pairing(web, other)
    is_hand = question[0] == "hand"
    if pairing is not None:
        return ("no" if is_hand else "yes", pairing)
    return ("yes" if is_hand else "no", unlike_paper(web, other))


def unlike_paper(web, other):
    """An UNLIKE PAPER of two webs that are not alike."""
    words = words_apart(web, other)
    if words:
        return ("word", words[0])
    tree = tree_within(spot_at(web, []), spot_at(other, []), SMALL_TREE)[0]
    if tree is not None:
        return ("apart", tree)
    return ("names",) + told_form(web, endless_paper(web)) + told_form(other, endless_paper(other))


def tree_within(first, second, most):
    """`(tree, rest)`: the apart tree of two Spots that no pairing leads to one another, and how many tuples are left.

    The tree is None if it has more than most tuples.
    """
    if most == 0:
        return (None, 0)
    if first.told != second.told:
        return (("view",), most - 1)
    rest = most - 1
    chosen = first.beyond(first.target()[0])
    rows = []
    for part in second.target():
        tree, rest = tree_within(chosen, second.beyond(part), rest)
        if tree is None:
            return (None, 0)
        rows.append(tree)
    return (("split", rows), rest)


def told_form(web, paper):
    """`(form, paper)`: the form that a name paper of the web is for, and the paper."""
    return (renumbered(web, colouring_at(web, paper[0])), paper)


def form_and_paper(web):
    """`(form, paper)`: the FORM of the web, and a name paper for it."""
    return told_form(web, name_paper(web))


def answer_name(question):
    """An answer whether a string is the NAME of a web."""
    form, paper = form_and_paper(question[1])
    return ("yes", paper) if name_text(form) == question[2] else ("no", (form, paper))


def answer_led(question):
    """An answer whether a symmetry leads one part to another one."""
    word, web, a, b = question
    numbering = Keepers(web, []).leading(a, b)
    return ("yes", numbering) if numbering is not None else ("no", apart_tree(web, [a], web, [b]))


def answer_symmetries(question):
    """An answer whether a web has so many symmetries."""
    paper = symmetry_paper(question[1])
    return ("yes" if paper_count(paper) == question[2] else "no", paper)


def answer_rings(question):
    """An answer whether these are the sorted lengths of a least base."""
    paper = base_paper(question[1])
    return ("yes" if lengths_of(paper) == question[2] else "no", paper)


def answer_joined(question):
    """An answer whether two parts are in one piece."""
    word, web, a, b = question
    way = least_way(web, a, b)
    return ("yes", way) if way is not None else ("no", [piece for piece in pieces(web) if a in piece][0])


def answer_match(question):
    """An answer whether a pattern has a match in a web."""
    found = matches(question[1], question[2])
    return ("yes", found[0]) if found else ("no", no_match(question[1], question[2]))


def answer_common(question):
    """An answer whether a common list that is meant has so many pairs or more."""
    word, web, other, joined, many = question
    pairs = greatest_common(web, other, joined)
    return ("yes", pairs) if len(pairs) >= many else ("no", no_greater_tree(web, other, joined, many - 1))


ACTIONS = {
    "alike": answer_likeness, "name": answer_name, "own mirror": answer_likeness, "hand": answer_likeness,
    "led": answer_led, "symmetries": answer_symmetries, "rings": answer_rings, "joined": answer_joined,
    "match": answer_match, "common": answer_common,
}


def compare(web, other):
    """The ANSWER whether two webs are alike."""
    return answer(("alike", web, other))


def unlike_papers(web, other):
    """The list of UNLIKE PAPERS of two webs: those of words, that of the apart tree, one of names; none if alike."""
    if first_pairing(web, other) is not None:
        return []
    by_names = ("names",) + form_and_paper(web) + form_and_paper(other)
    found = [("word", word) for word in words_apart(web, other)]
    return found + [("apart", apart_tree(web, [], other, [])), by_names]


def describe(web):
    """A DESCRIPTION of the web."""
    form, paper = form_and_paper(web)
    return (name_text(form), paper, symmetry_paper(web), base_paper(web), answer(("own mirror", web)))


def told_by(description):
    """What a DESCRIPTION tells."""
    text, paper, symmetries, rings, mirrored = description
    return (text, paper_count(symmetries), lengths_of(rings), mirrored[0] == "yes")


def kin_paper(webs):
    """A KIN PAPER of the list of webs."""
    paper = []
    for web in webs:
        row = None
        for place, earlier in enumerate(paper):
            if row is None and earlier[0] == "first":
                pairing = first_pairing(webs[place], web)
                row = None if pairing is None else ("like", place, pairing)
        paper.append(("first",) + form_and_paper(web) if row is None else row)
    return paper


def kin_lists(value):
    """The list of the LISTS of a KIN PAPER."""
    found = {}
    for place, row in enumerate(value):
        found.setdefault(place if row[0] == "first" else row[1], []).append(place)
    return list(found.values())
