"""Components, which look alike to each alternative outside, the parts of a table, and tables put into a table."""

from duelsets.bounds import MAX_SIZE
from duelsets.checks import is_set
from duelsets.errors import TooLarge
from duelsets.tables import all_sets, outsiders, restrict_table
from duelsets.tops import layers


def is_component(table, value):
    """Return whether any value is a component."""
    if not is_set(table, value) or len(value) == 0:
        return False
    return all([sees_one_sign(table, other, value) for other in outsiders(table, value)])


def sees_one_sign(table, other, members):
    """Return whether the other one beats all members or loses to all of them."""
    return all([table[other][one] == table[other][members[0]] for one in members])


def all_components(table):
    """Return the ascending tuple of all components."""
    return tuple([members for members in all_sets(table) if is_component(table, members)])


def parts(table):
    """Return the parts in the order of their lowest alternatives."""
    if len(table) == 1:
        return ((0,),)
    found = layers(table)
    if len(found) == 1:
        found = greatest_components(table)
    # Parts are disjoint, so the ascending order is that of their lowest alternatives.
    return tuple(sorted(found))


def greatest_components(table):
    """Return for each alternative of a strong table the greatest component with it that is not all, each one once."""
    smaller = [members for members in all_components(table) if len(members) < len(table)]
    greatest = [max([wide for wide in smaller if one in wide], key=len) for one in range(len(table))]
    return sorted(set(greatest))


def summary(table):
    """Return the table of the parts; the lowest alternative of each one stands for it."""
    return restrict_table(table, tuple([part[0] for part in parts(table)]))


def replace_alternatives(table, tables):
    """Return the table in which each alternative is replaced by the alternatives of its table."""
    places = [(one, inner) for one, small in enumerate(tables) for inner in range(len(small))]
    if len(places) > MAX_SIZE:
        raise TooLarge(MAX_SIZE)
    return tuple(["".join([sign_between(table, tables, place, other) for other in places]) for place in places])


def sign_between(table, tables, place, other):
    """Return the sign of a place, an alternative and one of its table, at another place."""
    if place[0] == other[0]:
        return tables[place[0]][place[1]][other[1]]
    return table[place[0]][other[0]]
