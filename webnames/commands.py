"""The commands of a desk, and questions about webs that have names there."""

from webnames.basics import is_integer
from webnames.deeds import is_deed
from webnames.errors import kept
from webnames.webs import is_web
from webnames.words import is_part_name

# For each word of a question how long it is, and the places of the names of webs in it.
QUESTION_SHAPES = {
    "alike": (3, (1, 2)),
    "name": (3, (1,)),
    "own mirror": (2, (1,)),
    "hand": (3, (1,)),
    "led": (4, (1,)),
    "symmetries": (3, (1,)),
    "rings": (3, (1,)),
    "joined": (4, (1,)),
    "match": (3, (2,)),
    "common": (5, (1, 2)),
}
NUMBER_WORDS = ("hand", "led", "joined")

# For each word what stands behind it in a command; first the deeds of the desk.
DEED_SHAPES = {
    "new": ("name", "web"),
    "read": ("name", "text"),
    "drop": ("name",),
    "mirror": ("name",),
    "form": ("name",),
    "renumber": ("name", "integers"),
    "change": ("name", "deed"),
    "shelve": ("name", "name"),
    "unshelve": ("name",),
    "note": ("name", "question"),
    "attach": ("name", "question", "any"),
    "renew": ("name",),
    "forget": ("name",),
}
OTHER_SHAPES = {"ask": ("question",), "same": ("name",), "undo": (), "redo": ()}


def is_named_question(value):
    """Whether any value is a NAMED QUESTION."""
    if not begins_with_word(value) or value[0] not in QUESTION_SHAPES:
        return False
    length, places = QUESTION_SHAPES[value[0]]
    return len(value) == length and all(is_part_name(value[place]) for place in places)


def begins_with_word(value):
    """Whether any value is a tuple that begins with a string."""
    return isinstance(value, tuple) and len(value) > 0 and isinstance(value[0], str)


def names_in(question):
    """The list of the names of webs in a NAMED QUESTION, from left to right."""
    return [question[place] for place in QUESTION_SHAPES[question[0]][1]]


def filled(question, webs):
    """The NAMED QUESTION with these webs in the places of their names."""
    told = list(question)
    for place, web in zip(QUESTION_SHAPES[question[0]][1], webs):
        told[place] = web
    return kept(tuple(told))


def asks_numbers(question):
    """Whether the NAMED QUESTION is about numbers of parts."""
    return question[0] in NUMBER_WORDS


def is_fit(what, value):
    """Whether any value is what a command needs where this word stands."""
    if what == "name":
        return is_part_name(value)
    if what == "web":
        return is_web(value)
    if what == "text":
        return isinstance(value, str)
    if what == "integers":
        return isinstance(value, list) and all(is_integer(x) for x in value)
    if what == "deed":
        return is_deed(value)
    return what == "any" or is_named_question(value)


def has_shape(value, shape):
    """Whether a tuple of any values has, behind its word, what is told."""
    return len(value) == len(shape) + 1 and all(is_fit(what, x) for what, x in zip(shape, value[1:]))


def is_desk_deed(value):
    """Whether any value is the command of a DEED of the desk."""
    return begins_with_word(value) and value[0] in DEED_SHAPES and has_shape(value, DEED_SHAPES[value[0]])


def is_command(value):
    """Whether any value is a COMMAND."""
    if is_desk_deed(value):
        return True
    return begins_with_word(value) and value[0] in OTHER_SHAPES and has_shape(value, OTHER_SHAPES[value[0]])
