"""The errors of the package, each with what it tells as its attributes."""


def kept(value):
    """The value with lists of its own, so that what is kept does not change when a list that was handed in does."""
    if isinstance(value, list):
        return [kept(x) for x in value]
    if isinstance(value, tuple):
        return tuple([kept(x) for x in value])
    return value


class TermError(ValueError):
    """What was passed is not of the form that is asked for."""


class InvalidMany(TermError):
    def __init__(self, value):
        self.value = kept(value)


class BadName(TermError):
    def __init__(self, text):
        self.text = kept(text)


class BadText(TermError):
    def __init__(self, row, spot):
        self.row = kept(row)
        self.spot = kept(spot)


class InvalidCommand(TermError):
    def __init__(self, value):
        self.value = kept(value)


class InvalidHand(TermError):
    def __init__(self, place):
        self.place = kept(place)


class InvalidPart(TermError):
    def __init__(self, place):
        self.place = kept(place)


class InvalidRound(TermError):
    def __init__(self, place, value):
        self.place = kept(place)
        self.value = kept(value)


class InvalidSide(TermError):
    def __init__(self, place):
        self.place = kept(place)


class InvalidTie(TermError):
    def __init__(self, place):
        self.place = kept(place)


class NotTreeName(TermError):
    def __init__(self, value):
        self.value = kept(value)


class TakenPart(TermError):
    def __init__(self, name, row):
        self.name = kept(name)
        self.row = kept(row)


class UnfitAnswer(TermError):
    def __init__(self, value):
        self.value = kept(value)


class UnfitNumbering(TermError):
    def __init__(self, value):
        self.value = kept(value)


class UnfitQuestion(TermError):
    def __init__(self, value):
        self.value = kept(value)


class UnfitRow(TermError):
    def __init__(self, row, what):
        self.row = kept(row)
        self.what = kept(what)


class MissingError(LookupError):
    """What was asked for is not there."""


class MissingHand(MissingError):
    def __init__(self, part):
        self.part = kept(part)


class MissingId(MissingError):
    def __init__(self, given):
        self.given = kept(given)


class MissingMember(MissingError):
    def __init__(self, value):
        self.value = kept(value)


class MissingSide(MissingError):
    def __init__(self, a, b):
        self.a = kept(a)
        self.b = kept(b)


class NoCandidate(MissingError):
    def __init__(self, place, part):
        self.place = kept(place)
        self.part = kept(part)


class UnknownLabel(MissingError):
    def __init__(self, label):
        self.label = kept(label)


class UnknownNote(MissingError):
    def __init__(self, label):
        self.label = kept(label)


class UnknownPart(MissingError):
    def __init__(self, name, row):
        self.name = kept(name)
        self.row = kept(row)


class UnknownWeb(MissingError):
    def __init__(self, name):
        self.name = kept(name)


class StateError(RuntimeError):
    """What was asked for cannot be done as things stand."""


class CannotDo(StateError):
    def __init__(self, deed):
        self.deed = kept(deed)


class CommandFailed(StateError):
    def __init__(self, place):
        self.place = kept(place)


class HasRing(StateError):
    def __init__(self, part):
        self.part = kept(part)


class NoLeaf(StateError):
    def __init__(self, path):
        self.path = kept(path)


class NotEven(StateError):
    def __init__(self, part):
        self.part = kept(part)


class NothingToRedo(StateError):
    def __init__(self):
        pass


class NothingToUndo(StateError):
    def __init__(self):
        pass


class StillFits(StateError):
    def __init__(self, part):
        self.part = kept(part)


class TakenHand(StateError):
    def __init__(self, place):
        self.place = kept(place)


class TakenLabel(StateError):
    def __init__(self, label):
        self.label = kept(label)


class TakenNote(StateError):
    def __init__(self, label):
        self.label = kept(label)


class TakenSide(StateError):
    def __init__(self, place):
        self.place = kept(place)


class TakenTie(StateError):
    def __init__(self, place):
        self.place = kept(place)


class TakenWeb(StateError):
    def __init__(self, name):
        self.name = kept(name)


class LimitError(ArithmeticError):
    """A bound would be passed."""


class TooMany(LimitError):
    def __init__(self, what, limit):
        self.what = kept(what)
        self.limit = kept(limit)
