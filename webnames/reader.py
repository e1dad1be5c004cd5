"""Texts read: their statements, and the webs that they tell."""

from webnames.errors import BadText, LimitError, MissingError, TakenPart, TermError, UnfitRow, UnknownPart
from webnames.numberings import is_pairing
from webnames.webs import MOST_TIES_OF_A_PART, is_kind, made, near_lists
from webnames.words import is_part_name, tokens

# For each state within a statement the tokens that may come, each with the state behind it.
STATES = {
    "begin": (("name", "named"),),
    "named": ((":", "colon"), ("order", "last name"), ("hand", "hand"), ("name", "paired")),
    "colon": (("kind", "kind"),),
    "kind": (("digit", "whole"), ("-", "minus")),
    "minus": (("digit above 0", "whole"),),
    "hand": (("sign", "hand names"),),
    "hand names": (("name", "two more"),),
    "two more": (("name", "one more"),),
    "one more": (("name", "three names"),),
    "three names": (("name", "whole"),),
    "paired": (("side", "sides"),),
    "sides": (("sign", "two names"),),
    "two names": (("name", "last name"),),
    "last name": (("name", "whole"),),
    "whole": (),
}
ENDING = ("begin", "kind", "three names", "whole")


def fits(want, word):
    """Whether a token's word is of the kind that a state wants."""
    if want == "name":
        return is_part_name(word)
    if want == "kind":
        return is_kind(word)
    if want == "order":
        return word in ("1", "2", "3", "4")
    if want == "digit":
        return len(word) == 1 and "0" <= word <= "9"
    if want == "digit above 0":
        return len(word) == 1 and "1" <= word <= "9"
    if want == "sign":
        return word in ("+", "-")
    return word == want


def state_behind(state, word):
    """The state behind a token's word, None if it may not come in this state."""
    for want, following in STATES[state]:
        if fits(want, word):
            return following
    return None


def statements(text):
    """The list of the statements of a text, as tuples."""
    found = []
    words = []
    state = "begin"
    for row, spot, word in tokens(text):
        if word == ";":
            if state not in ENDING:
                raise BadText(row, spot)
            if words:
                found.append(statement_of(row, words))
            words = []
            state = "begin"
        else:
            state = state_behind(state, word)
            if state is None:
                raise BadText(row, spot)
            words.append(word)
    return found


def statement_of(row, words):
    """The statement that these words of a row make, as a tuple."""
    if words[1] == ":":
        return ("part", row, words[0], words[2], int("".join(words[3:])) if len(words) > 3 else 0)
    if words[1] == "hand":
        return ("hand", row, words[0], words[3:], sign_told(words[2]))
    if words[2] == "side":
        return ("side", row, words[0], words[1], words[4], words[5], sign_told(words[3]))
    return ("tie", row, words[0], words[2], int(words[1]))


def sign_told(word):
    """The SIGN for which the word stands."""
    return 1 if word == "+" else -1


def names_in(statement):
    """The names of parts in a statement, from left to right."""
    if statement[0] == "part":
        return [statement[2]]
    if statement[0] == "tie":
        return list(statement[2:4])
    if statement[0] == "hand":
        return [statement[2]] + statement[3]
    return list(statement[2:6])


def read_web(text):
    """The tuple of the web that a text tells and the list of its parts' names."""
    found = statements(text)
    numbers = numbers_told(found)
    for statement in found:
        for name in names_in(statement):
            if name not in numbers:
                raise UnknownPart(name, statement[1])
    parts = [(statement[3], statement[4]) for statement in found if statement[0] == "part"]
    ties = ties_told(found, numbers)
    near = near_lists(len(parts), ties)
    hands = hands_told(found, numbers, near)
    sides = sides_told(found, numbers, near, ties)
    return (made(parts, ties, hands, sides), list(numbers))


def numbers_told(found):
    """The numbers of the parts by their names, in the sequence of their statements."""
    numbers = {}
    for statement in found:
        if statement[0] == "part":
            if statement[2] in numbers:
                raise TakenPart(statement[2], statement[1])
            numbers[statement[2]] = len(numbers)
    return numbers


def ties_told(found, numbers):
    """The ties that the statements tell, for `made`, if each one fits."""
    ties = []
    many = [0] * len(numbers)
    taken = {}
    for statement in found:
        if statement[0] == "tie":
            a, b = numbers[statement[2]], numbers[statement[3]]
            if a == b or (a, b) in taken or MOST_TIES_OF_A_PART in (many[a], many[b]):
                raise UnfitRow(statement[1], "tie")
            taken[(a, b)] = True
            taken[(b, a)] = True
            many[a] += 1
            many[b] += 1
            ties.append((a, b, statement[4]))
    return ties


def hands_told(found, numbers, near):
    """The hands that the statements tell, for `made`, if each one fits; near tells the neighbours."""
    hands = []
    taken = {}
    for statement in found:
        if statement[0] == "hand":
            part = numbers[statement[2]]
            sequence = [numbers[name] for name in statement[3]]
            if part in taken or sorted(sequence) != near[part]:
                raise UnfitRow(statement[1], "hand")
            taken[part] = True
            hands.append((part, sequence, statement[4]))
    return hands


def sides_told(found, numbers, near, ties):
    """The sides that the statements tell, for `made`, if each one fits; near tells the neighbours."""
    sides = []
    bearing = bearing_pairs(near, ties)
    for statement in found:
        if statement[0] == "side":
            a, b, x, y = [numbers[name] for name in names_in(statement)]
            # Where a tie can bear sides, x and y are further neighbours if they are neighbours other than b and a.
            if (a, b) not in bearing or x not in near[a] or x == b or y not in near[b] or y == a:
                raise UnfitRow(statement[1], "side")
            del bearing[(a, b)]
            del bearing[(b, a)]
            sides.append((a, b, x, y, statement[6]))
    return sides


def bearing_pairs(near, ties):
    """The ends, either way round, of the ties that can bear sides, as the keys of a dict."""
    bearing = {}
    for a, b, order in ties:
        if order == 2 and len(near[a]) in (2, 3) and len(near[b]) in (2, 3):
            bearing[(a, b)] = True
            bearing[(b, a)] = True
    return bearing


def is_web_text(value):
    """Whether any value is a string that read_web reads without an error."""
    if not isinstance(value, str):
        return False
    try:
        read_web(value)
    except (TermError, MissingError, LimitError):
        return False
    return True


def text_pairing(first, second):
    """The numbering by the names from the first text's web to the second one's, None if it is no pairing."""
    web, names = read_web(first)
    other, far_names = read_web(second)
    if sorted(names) != sorted(far_names):
        return None
    numbering = [far_names.index(name) for name in names]
    return numbering if is_pairing(web, other, numbering) else None
