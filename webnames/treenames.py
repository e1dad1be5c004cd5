"""Trees laid out by their codes, and the names of tree-shaped webs."""

from webnames.errors import NotTreeName, TooMany
from webnames.numberings import back, then
from webnames.pieces import pieces
from webnames.treecodes import best_rooted, centre_codes, web_code
from webnames.webs import MOST_PARTS, is_web
from webnames.words import is_letter

SIGNS = {"+": 1, "-": -1}


class Layout:
    """Parts put one behind another, each but a root with the tie that leads to its parent."""

    def __init__(self):
        self.parts = []
        self.ties = []
        self.hands = []
        self.sides = []

    def put(self, kind, mark, hand):
        """Puts a part behind all, and tells its number."""
        part = len(self.parts)
        self.parts.append((kind, mark))
        if hand != 0:
            self.hands.append((part, hand))
        return part

    def put_below(self, parent, branch):
        """Puts a branch, whole, behind all parts, tied with its parent."""
        kind, mark, order, branches, hand, side = branch
        part = self.put(kind, mark, hand)
        self.tie(parent, part, order, side)
        for below in branches:
            self.put_below(part, below)

    def tie(self, parent, part, order, side):
        """Ties a part with its parent; the rows of all parts rise, so that the side is told as in a web."""
        self.ties.append((parent, part, order))
        if side != 0:
            self.sides.append((parent, part, side))

    def laid(self):
        """What is laid out, as a web."""
        return (self.parts, sorted(self.ties), self.hands, sorted(self.sides))


def part_many(branches):
    """How many parts the branches of a list have."""
    return sum([1 + part_many(branch[3]) for branch in branches])


def laid_out(codes):
    """The codes of a list laid out as a web, one behind another."""
    if sum([1 + part_many(code[2]) for code in codes]) > MOST_PARTS:
        raise TooMany("parts", MOST_PARTS)
    layout = Layout()
    for kind, mark, branches, hand in codes:
        root = layout.put(kind, mark, hand)
        for branch in branches:
            layout.put_below(root, branch)
    return layout.laid()


def sign_mark(sign):
    """A sign as it stands in a tree name, nothing for 0."""
    return "" if sign == 0 else "+" if sign == 1 else "-"


def code_text(code):
    """The text of a code."""
    kind, mark, branches, hand = code
    return f"{kind}{mark}{sign_mark(hand)}" + "".join([branch_text(branch) for branch in branches])


def branch_text(branch):
    """The text of a branch."""
    kind, mark, order, branches, hand, side = branch
    return f"({order}{sign_mark(side)}" + code_text((kind, mark, branches, hand)) + ")"


def tree_name(web):
    """The tree name of a tree-shaped web."""
    return ".".join([code_text(code) for code in web_code(web)])


def tree_form(web):
    """The tree form of a tree-shaped web."""
    return laid_out(web_code(web))


def tree_numbering(web):
    """A numbering that makes a tree-shaped web its tree form."""
    told = []
    for piece in pieces(web):
        code, centre = centre_codes(web, piece[0])[0]
        told.append((code, centre))
    sequence = []
    for code, centre in sorted(told):
        sequence.extend(reading_sequence(best_rooted(web, centre)[2], centre))
    return back(sequence)


def reading_sequence(lay, part):
    """The part and all parts below it, in reading sequence."""
    found = [part]
    for child in lay[part]:
        found.extend(reading_sequence(lay, child))
    return found


def tree_pairing(web, other):
    """A pairing of two tree-shaped webs, None if they are not alike."""
    first, second = tree_numbering(web), tree_numbering(other)
    if web_code(web) != web_code(other):
        return None
    return then(first, back(second))


class Scan:
    """A text that is read as a tree name, sign by sign."""

    def __init__(self, text):
        self.text = text
        self.spot = 0

    def has_ended(self):
        """Whether all is read."""
        return self.spot == len(self.text)

    def ahead(self):
        """The sign that comes, the empty string at the end."""
        return "" if self.has_ended() else self.text[self.spot]

    def step_over(self, sign):
        """Whether this sign comes; if so, it is read."""
        if self.ahead() != sign:
            return False
        self.spot += 1
        return True

    def turn(self):
        """The sign that `+` or `-` stands for, if one of them comes, 0 otherwise."""
        sign = SIGNS.get(self.ahead(), 0)
        self.spot += 1 if sign != 0 else 0
        return sign

    def digit(self):
        """The digit that comes, as a number, None if none comes."""
        sign = self.ahead()
        if sign == "" or not "0" <= sign <= "9":
            return None
        self.spot += 1
        return int(sign)

    def kind(self):
        """The longest row of letters that comes."""
        start = self.spot
        while not self.has_ended() and is_letter(self.ahead()):
            self.spot += 1
        return self.text[start:self.spot]


def put_read(scan, layout):
    """Reads kind, mark and hand of a part, and puts it behind all; its number, None if it is none."""
    kind = scan.kind()
    below = scan.step_over("-")
    mark = scan.digit()
    if mark is None or len(layout.parts) == MOST_PARTS:
        return None
    return layout.put(kind, -mark if below else mark, scan.turn())


def web_read(text):
    """What a text tells if it is read as a tree name, None if it cannot be read; only trees have such names."""
    layout = Layout()
    if text == "":
        return layout.laid()
    scan = Scan(text)
    open_parts = [put_read(scan, layout)]
    while open_parts[-1] is not None and not scan.has_ended():
        if scan.step_over("("):
            order, side = scan.digit(), scan.turn()
            parent = open_parts[-1]
            open_parts.append(put_read(scan, layout))
            layout.tie(parent, open_parts[-1], order, side)
        elif scan.step_over(")"):
            open_parts.pop()
            if not open_parts:
                return None
        elif len(open_parts) == 1 and scan.step_over("."):
            open_parts = [put_read(scan, layout)]
        else:
            return None
    return layout.laid() if len(open_parts) == 1 and open_parts[0] is not None else None


def tree_named(value):
    """The tree form whose tree name any value is, None if it is none."""
    if not isinstance(value, str):
        return None
    web = web_read(value)
    # A text may name parts and ties that no web has, or be a name with its codes or branches in another sequence.
    return web if is_web(web) and tree_name(web) == value else None


def is_tree_name(value):
    """Whether any value is the tree name of some web."""
    return tree_named(value) is not None


def read_tree_name(value):
    """The tree form that has the tree name."""
    web = tree_named(value)
    if web is None:
        raise NotTreeName(value)
    return web
