"""Libraries of webs under labels, and look-ups of what is alike, and of what has a match, the plain way, too."""

from webnames.coarsest import card_of
from webnames.errors import TakenLabel, TooMany, UnknownLabel, kept
from webnames.least import least_match
from webnames.mirrors import bare, mirror
from webnames.pairings import first_pairing

MOST_WEBS = 60


def plain_same(rows, web):
    """The rising list of the labels of the rows whose webs are alike with the web, by a look at each row."""
    return sorted([label for label, other in rows if first_pairing(other, web) is not None])


def plain_bare_same(rows, web):
    """The rising list of the labels of the rows whose webs, bare, are alike with the web, bare."""
    return plain_same([(label, bare(other)) for label, other in rows], bare(web))


def plain_mirror_same(rows, web):
    """The rising list of the labels of the rows whose webs are alike with the mirror of the web."""
    return plain_same(rows, mirror(web))


def plain_with_pattern(rows, pattern):
    """The rising list of the labels of the rows whose webs have a match of the pattern."""
    return sorted([label for label, web in rows if least_match(pattern, web) is not None])


def card_text(web):
    """The card of the web as a text: alike webs have equal ones, and so have a web and its mirror."""
    return repr(card_of(web))


class Entry:
    """A web as it is kept, with its card's text and that of its bare web."""

    def __init__(self, web):
        self.web = kept(web)
        self.card = card_text(web)
        self.bare_card = card_text(bare(web))

    def is_alike(self, web, card):
        """Whether it is alike with a web, whose card's text is this."""
        return self.card == card and first_pairing(self.web, web) is not None

    def is_bare_alike(self, web, card):
        """Whether it is alike, bare, with a bare web, whose card's text is this."""
        return self.bare_card == card and first_pairing(bare(self.web), web) is not None


class Library:
    """At most 60 webs, each under a label."""

    def __init__(self):
        self.shelved = {}

    def add(self, web, label):
        """Keeps the web under the label, and tells the labels of those that were kept and are alike with it."""
        if label in self.shelved:
            raise TakenLabel(label)
        if len(self.shelved) == MOST_WEBS:
            raise TooMany("webs", MOST_WEBS)
        found = self.same(web)
        self.shelved[label] = Entry(web)
        return found

    def take_out(self, label):
        """The web under the label, which is no longer kept."""
        web = self.web_of(label)
        del self.shelved[label]
        return web

    def web_of(self, label):
        """The web under the label."""
        if label not in self.shelved:
            raise UnknownLabel(label)
        return kept(self.shelved[label].web)

    def rows(self):
        """The list of all `(label, web)`, by labels, rising."""
        return [(label, kept(self.shelved[label].web)) for label in sorted(self.shelved)]

    def same(self, web):
        """The rising list of the labels whose webs are alike with the web."""
        card = card_text(web)
        return [label for label in sorted(self.shelved) if self.shelved[label].is_alike(web, card)]

    def bare_same(self, web):
        """The rising list of the labels whose webs, bare, are alike with the web, bare."""
        web = bare(web)
        card = card_text(web)
        return [label for label in sorted(self.shelved) if self.shelved[label].is_bare_alike(web, card)]

    def mirror_same(self, web):
        """The rising list of the labels whose webs are alike with the mirror of the web."""
        return self.same(mirror(web))

    def with_pattern(self, pattern):
        """The rising list of the labels whose webs have a match of the pattern."""
        return [label for label in sorted(self.shelved) if least_match(pattern, self.shelved[label].web) is not None]

    def classes(self):
        """The rising list of the lists of labels of alike webs, each rising."""
        found = []
        for label in sorted(self.shelved):
            here = self.shelved[label]
            same = [row for row in found if self.shelved[row[0]].is_alike(here.web, here.card)]
            if same:
                same[0].append(label)
            else:
                found.append([label])
        return found

    def twin(self):
        """Another Library that keeps the same webs."""
        other = Library()
        other.shelved = dict(self.shelved)
        return other
