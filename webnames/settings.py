"""The classes of settings whose webs are alike, and their mirror classes."""

from webnames.errors import TooMany
from webnames.handed import contrary, put_setting, seats
from webnames.loose import led_setting, loose_makers, loose_symmetries, move_of, moves
from webnames.numberings import rounds
from webnames.search import quick_form

MOST_SEATS = 8


def check_seats(web):
    """Raises TooMany if the web has more than 8 seats."""
    if len(seats(web)) > MOST_SEATS:
        raise TooMany("seats", MOST_SEATS)


def all_settings(web):
    """The rising list of all SETTINGS of the web."""
    check_seats(web)
    rows = [[]]
    for seat in seats(web):
        rows = [row + [sign] for row in rows for sign in (-1, 1)]
    return rows


def settings(web):
    """The rising list of the forms of the webs put all SETTINGS, each form once."""
    check_seats(web)
    # Webs put settings of one class are alike, so they have one form.
    leasts = [row[0] for row in classes(web, [move_of(web, numbering) for numbering in loose_makers(web)])]
    return sorted([quick_form(put_setting(web, setting)) for setting in leasts])


def classes(web, rows):
    """The rising list of the classes, each a rising list of SETTINGS, where rows are MOVES that make all moves."""
    found = []
    seen = {}
    for setting in all_settings(web):
        if tuple(setting) not in seen:
            row = met_settings(rows, setting)
            for other in row:
                seen[tuple(other)] = True
            found.append(row)
    return found


def met_settings(rows, setting):
    """The rising list of the SETTINGS to which MOVES of these rows, one after another, lead this one."""
    met = {tuple(setting): True}
    queue = [setting]
    while queue:
        here = queue.pop()
        for move in rows:
            there = led_setting(move, here)
            if tuple(there) not in met:
                met[tuple(there)] = True
                queue.append(there)
    return sorted([list(row) for row in met])


def setting_class(web, setting):
    """The rising list of the SETTINGS of the class of this one."""
    check_seats(web)
    return met_settings(moves(web), setting)


def class_lists(web):
    """The rising list of the classes, each a rising list of SETTINGS."""
    check_seats(web)
    return classes(web, moves(web))


def least_settings(web):
    """The rising list of the least SETTING of each class."""
    return [row[0] for row in class_lists(web)]


def stays(move):
    """How many SETTINGS the MOVE leaves as they are."""
    places, turns = move
    number = 1
    for cycle in rounds(places):
        product = 1
        for place in cycle:
            product *= turns[place]
        number *= 2 if product == 1 else 0
    return number


def turned_move(move, hands):
    """The MOVE with the contrary turn at each hand, where so many of the first seats are hands."""
    places, turns = move
    return (places, [-turn for turn in turns[:hands]] + turns[hands:])


def setting_count(web):
    """The number of classes."""
    rows = [move_of(web, numbering) for numbering in loose_symmetries(web)]
    return sum([stays(move) for move in rows]) // len(rows)


def mirror_counts(web):
    """The tuple of how many classes are their own mirrors and how many mirror pairs there are."""
    rows = [move_of(web, numbering) for numbering in loose_symmetries(web)]
    as_they_are = sum([stays(move) for move in rows])
    turned = sum([stays(turned_move(move, len(web[2]))) for move in rows])
    class_many = as_they_are // len(rows)
    together = (as_they_are + turned) // (2 * len(rows))
    return (2 * together - class_many, class_many - together)


def mirror_pairs(web):
    """The rising list of the tuples of the least SETTINGS of both classes of each mirror pair."""
    found = []
    for row in class_lists(web):
        least = least_contrary(web, row)
        if row[0] < least:
            found.append((row[0], least))
    return found


def own_mirror_settings(web):
    """The rising list of the least SETTINGS of the classes that are their own mirrors."""
    return [row[0] for row in class_lists(web) if least_contrary(web, row) == row[0]]


def least_contrary(web, row):
    """The least contrary of the SETTINGS of a class."""
    return min([contrary(web, setting) for setting in row])
