"""What any part of the package asks of numbers and lists."""

from webnames.errors import InvalidMany


def is_integer(value):
    """Whether any value is an INTEGER."""
    return isinstance(value, int) and not isinstance(value, bool)


def is_count(value):
    """Whether any value is a COUNT."""
    return is_integer(value) and value >= 0


def is_sign(value):
    """Whether any value is a SIGN."""
    return is_integer(value) and value in (1, -1)


def is_number_below(value, many):
    """Whether any value is one of the numbers from 0 to many - 1."""
    return is_count(value) and value < many


def is_tuple_of(value, length):
    """Whether any value is a tuple of this length."""
    return isinstance(value, tuple) and len(value) == length


def check_many(value, most):
    """Raises InvalidMany unless the value is a COUNT to most."""
    if not is_count(value) or value > most:
        raise InvalidMany(value)


def ranked(keys):
    """The ranks of the keys: the least key has 0, the next greater one 1, and so on, equal keys the same."""
    places = sorted(range(len(keys)), key=lambda place: keys[place])
    ranks = [0] * len(keys)
    rank = 0
    for k in range(1, len(places)):
        if keys[places[k]] != keys[places[k - 1]]:
            rank += 1
        ranks[places[k]] = rank
    return ranks


def list_sign(numbers):
    """The sign of a list of unlike numbers: each pair with the greater one first turns it."""
    sign = 1
    for place, number in enumerate(numbers):
        for earlier in numbers[:place]:
            if earlier > number:
                sign = -sign
    return sign


def is_rising(rows):
    """Whether each value in a list that Python sorts is greater than the one in front of it."""
    return all(rows[k] < rows[k + 1] for k in range(len(rows) - 1))


def has_each_number(value, many):
    """Whether any value is a list that has each of the numbers from 0 to many - 1 once."""
    if not isinstance(value, list) or len(value) != many:
        return False
    return all(is_number_below(x, many) for x in value) and len(set(value)) == many


def are_unlike_numbers(value, many):
    """Whether any value is a list of unlike numbers from 0 to many - 1."""
    if not isinstance(value, list) or not all(is_number_below(x, many) for x in value):
        return False
    return len(set(value)) == len(value)


def mask_of(places):
    """The number whose bits tell the places of the list, so that many are looked at at once."""
    mask = 0
    for place in places:
        mask = mask | (1 << place)
    return mask


def times(number, many):
    """The product of so many factors, each of them the number; 1 for none."""
    product = 1
    for _ in range(many):
        product *= number
    return product
