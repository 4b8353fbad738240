"""Covering sets, the smallest one of them, and witnesses that a set is covering."""

from duelsets.checks import is_alternative, is_one_each, is_set
from duelsets.covers import uncovered_set
from duelsets.errors import NoSet
from duelsets.tables import all_sets, beats, beats_all, outsiders, restrict_table


def is_covering(table, value):
    """Return whether any value is a covering set."""
    return is_set(table, value) and len(value) > 0 and covers_others(table, value)


def covers_others(table, members):
    """Return whether each alternative outside has a witness among the members."""
    for other in outsiders(table, members):
        if witness_for(table, members, other) is None:
            return False
    return True


def witness_for(table, members, other):
    """Return the first member that covers the other one in the table of the members and the other one, or None."""
    for one in members:
        if is_witness(table, members, one, other):
            return one
    return None


def is_witness(table, members, one, other):
    """Return whether one covers the other in the table of the members, one among them, and the other."""
    return beats(table, one, other) and beats_all(table, one, [lost for lost in members if beats(table, other, lost)])


def covering_sets(table):
    """Return the ascending tuple of all covering sets."""
    return tuple([members for members in all_sets(table) if is_covering(table, members)])


def smallest_covering(table):
    """Return the covering set that is contained in all covering sets."""
    best = uncovered_set(table)
    if len(best) == len(table):
        return min(covering_sets(table), key=len)
    # It has uncovered alternatives only, and it stays the same without the others: so there are fewer sets to try.
    return tuple([best[at] for at in smallest_covering(restrict_table(table, best))])


def find_witnesses(table, members):
    """Return witnesses of a covering set."""
    if not is_covering(table, members):
        raise NoSet(members)
    return tuple([None if one in members else witness_for(table, members, one) for one in range(len(table))])


def witnesses_hold(table, members, value):
    """Return whether any value is witnesses of a set that is not empty."""
    if not is_one_each(table, value):
        return False
    return all([holds_for(table, members, one, witness) for one, witness in enumerate(value)])


def holds_for(table, members, one, value):
    """Return whether any value is the right item for one: None exactly if it is a member, otherwise a witness."""
    if one in members:
        return value is None
    return is_alternative(table, value) and value in members and is_witness(table, members, value, one)
