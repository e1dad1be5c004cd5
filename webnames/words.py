"""The tokens of texts, and the names of parts."""

from webnames.basics import check_many
from webnames.webs import MOST_PARTS


def is_letter(character):
    """Whether a character is one from a to z."""
    return "a" <= character <= "z"


def is_word_character(character):
    """Whether a character is one of which WORDS are made."""
    return is_letter(character) or "0" <= character <= "9"


def is_part_name(value):
    """Whether any value is a PART NAME."""
    if not isinstance(value, str) or not 1 <= len(value) <= 8 or value in ("hand", "side"):
        return False
    return is_letter(value[0]) and all(is_word_character(character) for character in value)


def own_names(many):
    """The names p0, p1 and so on, so many of them."""
    check_many(many, MOST_PARTS)
    return [f"p{k}" for k in range(many)]


def tokens(text):
    """The list of the tokens `(row, spot, word)` of a text, with the word `;` for each END."""
    found = []
    for k, line in enumerate(text.split("\n")):
        for spot, word in line_words(line):
            found.append((k + 1, spot, word))
        # The end of the line, or of the text.
        found.append((k + 1, len(line), ";"))
    return found


def line_words(line):
    """The list of `(spot, word)` for what stands in a line ahead of its remark."""
    told = line.partition("#")[0]
    found = []
    spot = 0
    while spot < len(told):
        end = spot + 1
        if is_word_character(told[spot]):
            while end < len(told) and is_word_character(told[end]):
                end += 1
        if told[spot] != " ":
            found.append((spot, told[spot:end]))
        spot = end
    return found
