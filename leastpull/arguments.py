"""Arguments: what several functions require of them, and copies."""

from leastpull.kinds import is_whole, is_within

VALUE_BOUNDS = (-1000000, 1000000)


def is_value(value):
    """True if value is an integer that a source may yield."""
    return is_within(value, VALUE_BOUNDS)


def are_values(lists, count, most):
    """True if there is one list of values for each of count sources, none with more than most values."""
    if not isinstance(lists, list) or len(lists) != count:
        return False
    return all([_are_few_values(values, most) for values in lists])


def _are_few_values(values, most):
    if not isinstance(values, list) or len(values) > most:
        return False
    return all([is_value(value) for value in values])


def is_number_below(value, count):
    """True if value is the number of one of count things."""
    return is_whole(value) and 0 <= value < count


def copied(value):
    """The same value, with a new list in place of each list in it."""
    if isinstance(value, list):
        return [copied(part) for part in value]
    if isinstance(value, tuple):
        return tuple([copied(part) for part in value])
    return value
