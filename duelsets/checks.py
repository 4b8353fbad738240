"""What several modules ask of values that callers pass."""

from duelsets.errors import NoAlternative


def is_integer(value):
    """Return whether any value is an integer; a bool is none, although Python takes it for an int."""
    return isinstance(value, int) and not isinstance(value, bool)


def is_alternative(table, value):
    """Return whether any value is the number of an alternative of the table."""
    return is_integer(value) and 0 <= value < len(table)


def is_set(table, value):
    """Return whether any value is a set of alternatives of the table, perhaps the empty one."""
    if not isinstance(value, tuple):
        return False
    least = 0
    for one in value:
        if not is_alternative(table, one) or one < least:
            return False
        least = one + 1
    return True


def require_alternative(table, value):
    """Raise NoAlternative with the value unless it is an alternative of the table."""
    if not is_alternative(table, value):
        raise NoAlternative(value)


def is_one_each(table, value):
    """Return whether any value is a tuple with one item for each alternative of the table."""
    return isinstance(value, tuple) and len(value) == len(table)


def is_marked(value, word):
    """Return whether any value is a tuple of this word and one more item."""
    return isinstance(value, tuple) and len(value) == 2 and value[0] == word
