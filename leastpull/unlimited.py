"""Reckoning with numbers and the unlimited, which is greater than every number and written None."""


def least(one, other):
    """The lesser of both."""
    if one is None:
        return other
    if other is None:
        return one
    return min(one, other)


def greatest(one, other):
    """The greater of both."""
    if one is None or other is None:
        return None
    return max(one, other)


def total(one, other):
    """The sum of both."""
    if one is None or other is None:
        return None
    return one + other


def less(one, number):
    """The first less a number, at least 0."""
    if one is None:
        return None
    return max(0, one - number)


def is_at_most(one, other):
    """True if the first is not greater than the other one."""
    if other is None:
        return True
    return one is not None and one <= other
