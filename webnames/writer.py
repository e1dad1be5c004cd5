"""Webs written as texts, and name texts."""

from webnames.errors import BadName, LimitError, MissingError, TermError
from webnames.reader import read_web
from webnames.webs import further, neighbours
from webnames.words import own_names


def statement_texts(web, names):
    """The list of the statements of the web as written, with these names."""
    rows = [f"{name}: {kind}{mark_text(mark)}" for name, (kind, mark) in zip(names, web[0])]
    for a, b, order in web[1]:
        rows.append(f"{names[a]} {order} {names[b]}")
    for part, sign in web[2]:
        beside = " ".join([names[x] for x in neighbours(web, part)])
        rows.append(f"{names[part]} hand {sign_text(sign)} {beside}")
    for a, b, sign in web[3]:
        x, y = further(web, a, b)[0], further(web, b, a)[0]
        rows.append(f"{names[a]} {names[b]} side {sign_text(sign)} {names[x]} {names[y]}")
    return rows


def mark_text(mark):
    """A mark as it is written behind a kind, nothing for 0."""
    return f" {mark}" if mark != 0 else ""


def sign_text(sign):
    """A SIGN as it is written."""
    return "+" if sign == 1 else "-"


def write_web(web, names):
    """The web as written with these names, a statement in each line."""
    return "\n".join(statement_texts(web, names))


def name_text(web):
    """The NAME TEXT of the web."""
    return "; ".join(statement_texts(web, own_names(len(web[0]))))


def web_named(text):
    """The web whose name text a string is, None if there is none."""
    try:
        web = read_web(text)[0]
    except (TermError, MissingError, LimitError):
        return None
    return web if name_text(web) == text else None


def read_name(text):
    """The web whose name text it is."""
    web = web_named(text)
    if web is None:
        raise BadName(text)
    return web


def is_name_text(value):
    """Whether any value is the name text of a web."""
    return isinstance(value, str) and web_named(value) is not None


def tidy_text(text):
    """The text's web written again, with the same names."""
    web, names = read_web(text)
    return write_web(web, names)
