"""The texts of tables, sets and orders, and what is read from texts."""

from duelsets.errors import BadText
from duelsets.tables import table_error


def table_text(table):
    """Return the rows with a line feed between two of them."""
    return "\n".join(table)


def set_text(members):
    """Return the numbers with a space between two of them, or none."""
    if len(members) == 0:
        return "none"
    return " ".join([str(one) for one in members])


def parse_table(text):
    """Return the table whose text this is."""
    require_text(text)
    rows = tuple(text.split("\n"))
    error = table_error(rows)
    if error is not None:
        raise BadText(error)
    return rows


def parse_order(table, text):
    """Return the order whose text this is."""
    require_text(text)
    words = text.split(" ")
    left = [str(one) for one in range(len(table))]
    for at, word in enumerate(words):
        if word not in left:
            raise BadText(at)
        left.remove(word)
    if len(left) > 0:
        raise BadText(len(words))
    return tuple([int(word) for word in words])


def require_text(value):
    """Raise BadText with None unless the value is a text."""
    if not isinstance(value, str):
        raise BadText(None)
