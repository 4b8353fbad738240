"""Tables of duels: their form, the duels in them, and tables made from them."""

from duelsets.bounds import MAX_SIZE
from duelsets.checks import is_set, require_alternative
from duelsets.errors import NoSet, SameAlternative


def is_table(value):
    """Return whether any value is a table."""
    return table_error(value) is None


def table_error(value):
    """Return None for a table, and for any other value a tuple that tells where it first fails to be one."""
    if not isinstance(value, tuple) or not 1 <= len(value) <= MAX_SIZE:
        return (None, None, "table")
    # Each pass relies on the earlier ones: signs need whole rows, and pairs need valid signs.
    error = row_error(value)
    if error is None:
        error = sign_error(value)
    if error is None:
        error = pair_error(value)
    return error


def row_error(rows):
    """Return the error of the first item that is not a text of the right length, or None."""
    for i, row in enumerate(rows):
        if not isinstance(row, str) or len(row) != len(rows):
            return (i, None, "row")
    return None


def sign_error(rows):
    """Return the error of the first character that may not stand at its place, or None."""
    for i, row in enumerate(rows):
        for j, sign in enumerate(row):
            if sign not in ("." if i == j else "+-"):
                return (i, j, "sign")
    return None


def pair_error(rows):
    """Return the error of the first two alternatives that both win or both lose their duel, or None."""
    for i, row in enumerate(rows):
        for j in range(i + 1, len(rows)):
            if row[j] == rows[j][i]:
                return (i, j, "pair")
    return None


def wins_of(table, one):
    """Return the set of the alternatives that one beats."""
    require_alternative(table, one)
    return places_of(table[one], "+")


def losses_of(table, one):
    """Return the set of the alternatives that beat one."""
    require_alternative(table, one)
    return places_of(table[one], "-")


def places_of(row, sign):
    """Return the ascending tuple of the indexes at which a row has the sign."""
    return tuple([j for j, mark in enumerate(row) if mark == sign])


def beats(table, one, other):
    """Return whether one beats the other; no alternative beats itself."""
    return table[one][other] == "+"


def beats_all(table, one, others):
    """Return whether one beats each of the others, perhaps none."""
    return all([beats(table, one, other) for other in others])


def outsiders(table, members):
    """Return the set of the alternatives that are not members."""
    return tuple([one for one in range(len(table)) if one not in members])


def scores(table):
    """Return the number of alternatives that each alternative beats."""
    return tuple([row.count("+") for row in table])


def restrict_table(table, members):
    """Return the table of the duels between the members, numbered again in ascending order."""
    if not is_set(table, members) or len(members) == 0:
        raise NoSet(members)
    return pick_table(table, members)


def pick_table(table, picked):
    """Return the table in which alternative picked[k] has the number k, without those that are not picked."""
    return tuple(["".join([table[i][j] for j in picked]) for i in picked])


def turn_duel(table, one, other):
    """Return the table in which the duel between two alternatives has the other winner."""
    require_alternative(table, one)
    require_alternative(table, other)
    if one == other:
        raise SameAlternative(one)
    rows = list(table)
    rows[one] = turn_sign(rows[one], other)
    rows[other] = turn_sign(rows[other], one)
    return tuple(rows)


def turn_sign(row, at):
    """Return the row with the other winner at this index."""
    return row[:at] + ("-" if row[at] == "+" else "+") + row[at + 1:]


def relabel_table(table, order):
    """Return the table in which alternative order[k] has the number k."""
    return pick_table(table, order)


def all_sets(table):
    """Return the ascending tuple of all sets of alternatives, also the empty one."""
    sets = [()]
    for one in reversed(range(len(table))):
        # The sets found so far have only greater alternatives. So the empty one comes first, then those
        # that begin with one, then the others: the order is ascending without sorting.
        sets = [()] + [(one,) + rest for rest in sets] + sets[1:]
    return tuple(sets)
